import PyProof.Rows.All
import Wide.All
import OpenK.AllK
import Wide.FinOn
import Lean
import PyProof.EqAt
import PyProof.EqKinds
import PyProof.TupleCall
import KE.IntTextText
import PyProof.SeqI3
import KE.KSortTup
import KE.KMinKey
import PySem.Challenge.RW_unsaybook_k33_sums_counts_and_ends
set_option Elab.async false
set_option linter.all false
set_option maxRecDepth 100000
local macro_rules|`(‹0›)=>`(by decide +kernel)
local macro_rules|`(‹1›)=>`(by omega)
local macro_rules|`(‹$s:str›)=>`(PySem.Str.ofString $s)
local macro_rules|`(‹2›)=>`(⟨rfl,rfl,rfl,by decide +kernel,rfl,by decide +kernel,by decide +kernel⟩)
local macro_rules|`(‹($k,$f,$s:str)›)=>`(PySem.W.nsIn $k PySem.mainGlobals $s = some (some (PySem.Value.ref $f)))
local macro_rules|`(‹($k,$c,$f,$s:str)›)=>`(PySem.W.findIn $k (PySem.Value.ref $c) $s = some (some (PySem.Value.ref $f)))
local macro_rules|`(‹[$k,$f]›)=>`(PySem.W.isFn $k (PySem.Value.ref $f) = true)
open PySem PySem.Spec PyProof.Rows in abbrev zB0:=@wpAny_bind
open PySem PySem.Spec PyProof.Rows in abbrev zP0:=@wpAny_pure
open PySem PySem.Spec PyProof.Rows in abbrev zH0:=@Heap.get?_push_of_some
namespace L2
open PySem PySem.Spec PyProof.Rows
noncomputable abbrev Key:=Sum Int Str
noncomputable def fS:Key->Value->Bool
 | .inl k,v=>Value.isInt k v
 | .inr x,v=>Value.isStrOf x v
noncomputable def CJ (w:World):Key->Int
 | .inl k=>hashInt k
 | .inr x=>hashStr w x
theorem keyIs_shape:∀{k:Key}{v:Value},fS k v=true->(∃i t,k=Sum.inl i/\v=Value.int i t)\/(∃x t,k=Sum.inr x/\v=Value.str x t)
 | .inl i,v,h=>by
  obtain⟨t,e⟩:=Value.isInt_shape (k:=i) (v:=v) h
  exact .inl ⟨i,t,rfl,e⟩
 | .inr x,v,h=>by
  obtain⟨t,e⟩:=Value.isStrOf_shape (x:=x) (v:=v) h
  exact .inr ⟨x,t,rfl,e⟩
theorem sH (i:Int) (t:Tok):fS (.inl i) (.int i t)=true:=by simp [fS,Value.isInt]
theorem sG (x:Str) (t:Tok):fS (.inr x) (.str x t)=true:=by simp [fS,Value.isStrOf]
theorem AT (a b:Int):decide ((Sum.inl a:Key)=Sum.inl b)=(a == b):=by
 by_cases e:a=b
 ·subst e;simp
 ·have h:¬(Sum.inl a:Key)=Sum.inl b:=λq=>e (Sum.inl.inj q)
  rw [decide_eq_false h]
  exact(beq_eq_false_iff_ne.mpr e).symm
theorem AQ (a b:Str):decide ((Sum.inr a:Key)=Sum.inr b)=decide (a=b):=by
 by_cases e:a=b
 ·subst e;simp
 ·have h:¬(Sum.inr a:Key)=Sum.inr b:=λq=>e (Sum.inr.inj q)
  rw [decide_eq_false h,decide_eq_false e]
theorem AS (a:Int) (b:Str):decide ((Sum.inl a:Key)=Sum.inr b)=false:=decide_eq_false (λq=>nomatch q)
theorem AR (a:Str) (b:Int):decide ((Sum.inr a:Key)=Sum.inl b)=false:=decide_eq_false (λq=>nomatch q)
noncomputable def aJ (prog:Program) (w:World):PySem.KeyKind prog w Key where
 is:=fS
 hash:=CJ w
 inj:=λv a b ha hb=>by
  rcases keyIs_shape ha with⟨i,t,rfl,rfl⟩ | ⟨x,t,rfl,rfl⟩
  ·rcases keyIs_shape hb with⟨j,u,rfl,e⟩ | ⟨y,u,rfl,e⟩
   ·injection e with e1 _;rw [e1]
   ·exact nomatch e
  ·rcases keyIs_shape hb with⟨j,u,rfl,e⟩ | ⟨y,u,rfl,e⟩
   ·exact nomatch e
   ·injection e with e1 _;rw [e1]
 byValue:=λk v h=>by
  rcases keyIs_shape h with⟨i,t,rfl,rfl⟩ | ⟨x,t,rfl,rfl⟩ <;> rfl
 pyHash:=λhv h=>by
  rcases keyIs_shape hv with⟨i,t,rfl,rfl⟩ | ⟨x,t,rfl,rfl⟩
  ·exact wpAny_pyHash_int h
  ·exact wpAny_pyHash_str h
 eqBool:=λhu hv h=>by
  rcases keyIs_shape hu with⟨i,t,rfl,rfl⟩ | ⟨x,t,rfl,rfl⟩
  ·rcases keyIs_shape hv with⟨j,u,rfl,rfl⟩ | ⟨y,u,rfl,rfl⟩
   ·rw [AT]at h;exact wpAny_eqBool_int h
   ·rw [AS]at h;exact SeqAt.EqAt.int_str i t y u _ _ _ _ h
  ·rcases keyIs_shape hv with⟨j,u,rfl,rfl⟩ | ⟨y,u,rfl,rfl⟩
   ·rw [AR]at h;exact SeqAt.EqAt.str_int x t j u _ _ _ _ h
   ·rw [AQ]at h;exact wpAny_eqBool_str h
 «strs»:=λk x t v h=>by
  rcases keyIs_shape h with⟨i,u,rfl,e⟩ | ⟨y,u,rfl,e⟩
  ·exact nomatch e
  ·injection e with e1 _
   subst e1
   cases v <;> rfl
theorem oh (prog:Program) (w:World) (i:Int) (t:Tok):(aJ prog w).is (.inl i) (.int i t)=true:=sH i t
theorem nZ (prog:Program) (w:World) (x:Str) (t:Tok):(aJ prog w).is (.inr x) (.str x t)=true:=sG x t
inductive V where
 | non | bl (b:Bool) | int (i:Int) | str (x:Str) | byt (b:Array UInt8) | flt (b:UInt64) | ref (a:Addr) | ty (n:String)
 deriving DecidableEq
noncomputable def aV:V->Value->Prop
 | .non,u=>u=Value.none
 | .bl b,u=>u=Value.bool b
 | .int i,u=>∃t,u=Value.int i t
 | .str x,u=>∃t,u=Value.str x t
 | .byt b,u=>∃t,u=Value.bytes b t
 | .flt b,u=>∃t,u=Value.float b t
 | .ref a,u=>u=Value.ref a
 | .ty n,u=>u=Value.type n
noncomputable abbrev aM:List V->List Value->Prop:=Paired aV
theorem aM.length {xs:List V}{us:List Value} (r:aM xs us):xs.length=us.length:=Paired.length r
theorem aM.get:∀{xs:List V}{us:List Value}{i:Nat}{x:V},aM xs us->xs[i]?=some x->∃u,us[i]?=some u/\aV x u
 | _,_,_,_,.nil,e=>by simp at e
 | _,_,0,_,.cons r _,e=>by simp at e;subst e;exact⟨_,rfl,r⟩
 | _,_,i+1,x,.cons _ t,e=>by
  obtain⟨u,h1,h2⟩:=aM.get (i:=i) (x:=x) t (by simpa using e)
  exact⟨u,by simpa using h1,h2⟩
theorem aM.set {x:V}{u:Value} (r:aV x u):∀{xs:List V}{us:List Value} (i:Nat),aM xs us->aM (xs.set i x) (us.set i u)
 | _,_,_,.nil=>.nil
 | _,_,0,.cons _ t=>.cons r t
 | _,_,i+1,.cons q t=>.cons q (aM.set r i t)
theorem aM.append:∀{xs ys:List V}{us ws:List Value},aM xs us->aM ys ws->aM (xs++ys) (us++ws)
 | _,_,_,_,.nil,s=>s
 | _,_,_,_,.cons r t,s=>.cons r (aM.append t s)
theorem aM.take:∀{xs:List V}{us:List Value} (n:Nat),aM xs us->aM (xs.take n) (us.take n)
 | _,_,0,_=>.nil
 | _,_,_+1,.nil=>.nil
 | _,_,n+1,.cons r t=>.cons r (aM.take n t)
theorem aM.drop:∀{xs:List V}{us:List Value} (n:Nat),aM xs us->aM (xs.drop n) (us.drop n)
 | _,_,0,r=>r
 | _,_,_+1,.nil=>.nil
 | _,_,n+1,.cons _ t=>aM.drop n t
noncomputable def eZ:Option V->Option Value->Prop
 | some v,some u=>aV v u
 | none,none=>True
 | _,_=>False
noncomputable def KV {κ:Type}:List (κ × V)->List (κ × Value)->Prop:=Paired λ(p:κ × V) (q:κ × Value)=>p.1=q.1/\aV p.2 q.2
noncomputable def kV:Key->V
 | .inl i=>.int i
 | .inr x=>.str x
inductive HO where
 /-- a list -/
 | lst (xs:List V)
 /-- a tuple (never changes) -/
 | tup (xs:List V)
 /-- a dict whose keys are ints and texts;one whose keys are tuples of ints and texts (the empty one is both) -/
 | dK (kvs:List (Key × V)) | dT (kvs:List (List Key × V))
 /-- a set of ints: its members,its size -/
 | set (S:Int->Bool) (n:Nat)
 /-- an instance of the class at C,its dict at dx,its attributes -/
 | ins (C dx:Addr) (fs:List (Str × V))
 /-- the dict of the instance at x -/
 | own (x:Addr)
 /-- the dict of an exception -/
 | xd (fs:List (Str × V))
 /-- a bound method,f of x -/
 | met (f x:Addr)
 /-- a range object lo,lo+1,.. below hi -/
 | rng (lo hi:Int)
 /-- a thing that is known to the object (the script;a dict while a loop walks it): read,never written while it is so -/
 | frz (o:Obj) (u:HO)
 /-- a code object's table -/
 | tbl (ps:Array Value)
 /-- any other thing,by what is true of its one object (a def of one's own: SetO a S n:=HO.ext λh=>..) -/
 | ext (φ:Heap->Prop)
noncomputable abbrev Hp:=Addr->Option HO
noncomputable def upd (H:Hp) (a:Addr) (o:HO):Hp:=λb=>if b=a then some o else H b
theorem aj {H:Hp}{a:Addr}{o:HO}:upd H a o a=some o:=by unfold upd;rw [if_pos rfl]
theorem ah {H:Hp}{a b:Addr}{o:HO} (h:b≠a):upd H a o b=H b:=by unfold upd;rw [if_neg h]
theorem bv {H:Hp}{a:Addr}{o u:HO}:upd (upd H a o) a u=upd H a u:=by
 funext b;unfold upd;split <;> rfl
theorem cR {H:Hp}{a b:Addr}{o u:HO} (h:H a=some o) (h':H b=some u) (d:o≠u):a≠b:=by
 intro e;subst e;rw [h]at h';exact d (Option.some.inj h')
theorem ai {H:Hp}{a b:Addr}{o:HO} (h:H a=some o) (h':H b=none):a≠b:=by
 intro e;subst e;rw [h]at h';cases h'
section
variable (P:Program) (w:World)
noncomputable def bA (H:Hp) (h:Heap) (a:Addr):HO->Prop
 | .lst xs=>xs.length<=sizeLine/\∃(its:List Value) (n:Nat),aM xs its/\h.get? a=some { cls:=.type "list", data:=.seq its.toArray n }
 | .tup xs=>xs.length<=sizeLine/\∃its:List Value,aM xs its/\IsTup h a its.toArray
 | .dK kvs=>kvs.length<=sizeLine/\(a == sysModules)=false/\∃vs,KV kvs vs/\h.DictOf (aJ P w) a vs
 | .dT kvs=>kvs.length<=sizeLine/\(a == sysModules)=false/\∃xs:List (List Key × Addr × Value),
   Paired (λ(p:List Key × V) (q:List Key × Addr × Value)=>p.1=q.1/\H q.2.1=some (.tup (p.1.map kV))/\aV p.2 q.2.2) kvs xs/\
   ∃o es ep,h.get? a=some o/\o.ExactDict/\o.data=.dict es ep/\es.toList=xs.map (entryOfKey (tupleKind (aJ P w)))/\(xs.map (·.1)).Nodup
 | .set S n=>h.SetOf (intKind P w) a S n
 | .ins C dx fs=>H dx=some (.own a)/\fs.length<=1000/\dx≠a/\h.get? a=some (PySem.W.instObj C dx)/\
   ∃mA,h.Ns1 dx mA/\(∀f,eZ (fs.lookup f) (mA f))/\PySem.Within mA (fs.map (·.1))
 | .own _=>∃o,h.get? a=some o
 | .xd fs=>∃mA,h.Ns1 a mA/\∀f,eZ (fs.lookup f) (mA f)
 | .rng lo hi=>∃t u v,h.get? a=some { cls:=.type "range", data:=.fields #[.int lo t,.int hi u,.int 1 v] }
 | .frz o u=>h.get? a=some o/\bA H h a u
 | .tbl ps=>h.get? a=some { cls:=.none,data:=.fields ps }
 | .met f x=>h.get? a=some (PySem.W.methodObj (.ref f) (.ref x))
 | .ext φ=>φ h/\(∃o,h.get? a=some o)/\∀h1 h2:Heap,φ h1->(∀o,h1.get? a=some o->h2.get? a=some o)->φ h2
def HOk (H:Hp) (h:Heap):Prop:=∀a o,H a=some o->bA P w H h a o
end
section
variable {P:Program}{w:World}{H H':Hp}{h h':Heap}{a:Addr}{o:HO}
theorem bA.lt (x:bA P w H h a o):a < h.objs.size:=by
 cases o with
 | lst xs=>obtain⟨_,_,_,_,e⟩:=x;exact Heap.lt_size e
 | tup xs=>obtain⟨_,_,_,p⟩:=x;exact p.lt
 | dK kvs=>obtain⟨_,_,_,_,o,_,_,e,_⟩:=x;exact Heap.lt_size e
 | dT kvs=>obtain⟨_,_,_,_,o,_,_,e,_⟩:=x;exact Heap.lt_size e
 | set S n=>obtain⟨o,_,_,_,e,_⟩:=x;exact Heap.lt_size e
 | ins C dx fs=>obtain⟨_,_,_,e,_⟩:=x;exact Heap.lt_size e
 | own y=>obtain⟨_,e⟩:=x;exact Heap.lt_size e
 | xd fs=>obtain⟨_,⟨_,_,_,e,_⟩,_⟩:=x;exact Heap.lt_size e
 | rng lo hi=>obtain⟨_,_,_,e⟩:=x;exact Heap.lt_size e
 | frz ob u=>obtain⟨e,_⟩:=x;exact Heap.lt_size e
 | tbl ps=>exact Heap.lt_size (show h.get? a=some _ from x)
 | met f y=>exact Heap.lt_size (show h.get? a=some _ from x)
 | ext φ=>obtain⟨_,⟨_,e⟩,_⟩:=x;exact Heap.lt_size e
theorem Paired.mapP {α β:Type}{F G:α->β->Prop}:∀{l₁:List α}{l₂:List β},Paired F l₁ l₂->(∀a b,F a b->G a b)->Paired G l₁ l₂
 | _,_,.nil,_=>.nil
 | _,_,.cons r t,f=>.cons (f _ _ r) (Paired.mapP t f)
theorem bA.stay (x:bA P w H h a o) (k:∀b u,(b=a\/H b=some (.own a))->h.get? b=some u->h'.get? b=some u)
  (ho:∀b,H b=some (.own a)->H' b=some (.own a)) (ht:∀b xs,H b=some (.tup xs)->H' b=some (.tup xs)):bA P w H' h' a o:=by
 induction o with
 | lst xs=>obtain⟨z,its,n,r,e⟩:=x;exact⟨z,its,n,r,k _ _ (.inl rfl) e⟩
 | tup xs=>obtain⟨z,its,r,ob,e,c⟩:=x;exact⟨z,its,r,ob,k _ _ (.inl rfl) e,c⟩
 | dK kvs=>obtain⟨z,y,vs,r,ob,es,ep,e,c⟩:=x;exact⟨z,y,vs,r,ob,es,ep,k _ _ (.inl rfl) e,c⟩
 | dT kvs=>
  obtain⟨z,y,xs,r,ob,es,ep,e,c⟩:=x
  exact⟨z,y,xs,Paired.mapP r λp q z=>⟨z.1,ht _ _ z.2.1,z.2.2⟩,ob,es,ep,k _ _ (.inl rfl) e,c⟩
 | set S n=>obtain⟨ob,es,ep,t,e,c⟩:=x;exact⟨ob,es,ep,t,k _ _ (.inl rfl) e,c⟩
 | ins C dx fs=>
  obtain⟨d,z,ne,e,mA,⟨od,es,ep,e2,c⟩,r⟩:=x
  exact⟨ho _ d,z,ne,k _ _ (.inl rfl) e,mA,⟨od,es,ep,k _ _ (.inr d) e2,c⟩,r⟩
 | own y=>obtain⟨ob,e⟩:=x;exact⟨ob,k _ _ (.inl rfl) e⟩
 | xd fs=>obtain⟨mA,⟨od,es,ep,e,c⟩,r⟩:=x;exact⟨mA,⟨od,es,ep,k _ _ (.inl rfl) e,c⟩,r⟩
 | rng lo hi=>obtain⟨t,u,v,e⟩:=x;exact⟨t,u,v,k _ _ (.inl rfl) e⟩
 | frz ob u ih=>obtain⟨e,q⟩:=x;exact⟨k _ _ (.inl rfl) e,ih q⟩
 | tbl ps=>
  have e:h.get? a=some { cls:=.none,data:=.fields ps }:=x
  show h'.get? a=some { cls:=.none,data:=.fields ps }
  exact k a _ (.inl rfl) e
 | met f y=>
  have e:h.get? a=some (PySem.W.methodObj (.ref f) (.ref y)):=x
  show h'.get? a=some (PySem.W.methodObj (.ref f) (.ref y))
  exact k a _ (.inl rfl) e
 | ext φ=>obtain⟨p,⟨o,e⟩,st⟩:=x;exact⟨st _ _ p λo q=>k _ _ (.inl rfl) q,⟨o,k _ _ (.inl rfl) e⟩,st⟩
theorem HOk.lt (x:HOk P w H h) (e:H a=some o):a < h.objs.size:=(x a o e).lt
theorem HOk.fresh (x:HOk P w H h) (e:h.objs.size<=a):H a=none:=by
 cases q:H a with
 | none=>rfl
 | some u=>exact absurd (Nat.lt_of_lt_of_le (x.lt q) e) (Nat.lt_irrefl _)
theorem HOk.kept (x:HOk P w H h) (k:∀b u,h.get? b=some u->h'.get? b=some u):HOk P w H h':=λa o e=>
 (x a o e).stay (λb u _ q=>k b u q) (λ_ q=>q) λ_ _ q=>q
theorem HOk.laid (x:HOk P w H h) (k:∀b u,h.get? b=some u->h'.get? b=some u) (hp:h.objs.size<=a) (new:bA P w (upd H a o) h' a o):HOk P w (upd H a o) h':=λb u e=>by
 have hn:=x.fresh hp
 by_cases hb:b=a
 ·subst hb;rw [aj]at e;cases e;exact new
 ·rw [ah hb]at e
  exact(x b u e).stay (λc v _ q=>k c v q) (λc q=>by rw [ah (ai q hn)];exact q) λc xs q=>by rw [ah (ai q hn)];exact q
end
def Rd (H:Hp) (a:Addr) (u:HO):Prop:=H a=some u\/∃o,H a=some (.frz o u)
theorem Rd.of {H:Hp}{a:Addr}{u:HO} (h:H a=some u):Rd H a u:=.inl h
theorem Rd.ok {P:Program}{w:World}{H:Hp}{h:Heap}{a:Addr}{u:HO} (r:Rd H a u) (x:HOk P w H h):bA P w H h a u:=by
 rcases r with r | ⟨o,r⟩
 ·exact x a u r
 ·obtain⟨_,q⟩:=x a _ r
  exact q
noncomputable def Mut:Option HO->Prop
 | some (.lst _)=>True
 | some (.dK _)=>True
 | some (.dT _)=>True
 | some (.set _ _)=>True
 | some (.ins _ _ _)=>True
 | some (.ext _)=>True
 | _=>False
section
variable {P:Program}{w:World}{H:Hp}{h h':Heap}{x e:Addr}{o':HO}
theorem HOk.write (ok:HOk P w H h) (mu:Mut (H x)) (he:e=x\/H e=some (.own x)) (k:∀b u,b≠e->h.get? b=some u->h'.get? b=some u) (heo:∃u,h'.get? e=some u)
  (new:bA P w (upd H x o') h' x o'):HOk P w (upd H x o') h':=λb u q=>by
 have nown:∀c y,H c=some (.own y)->c≠x:=λc y r z=>by subst z;rw [r]at mu;exact mu
 have ntup:∀c xs,H c=some (.tup xs)->c≠x:=λc xs r z=>by subst z;rw [r]at mu;exact mu
 by_cases hb:b=x
 ·subst hb;rw [aj]at q;cases q;exact new
 ·rw [ah hb]at q
  by_cases hbe:b=e
  ·have q':H b=some (.own x):=by
    rcases he with z | z
    ·exact absurd (hbe.trans z) hb
    ·rw [hbe];exact z
   rw [q]at q';cases q'
   obtain⟨v,hv⟩:=heo
   exact⟨v,by rw [hbe];exact hv⟩
  ·refine(ok b u q).stay (λc v hc r=>k c v ?_ r) (λc r=>by rw [ah (nown c b r)];exact r) λc xs r=>by rw [ah (ntup c xs r)];exact r
   rcases hc with rfl | hc
   ·exact hbe
   ·rintro rfl
    rcases he with z | z
    ·exact nown c b hc z
    ·rw [hc]at z;cases z;exact hb rfl
end
structure Un (fs ex:List Addr) (H H':Hp) (h h':Heap):Prop where
 keep:∀b o,h.get? b=some o->H b=none->b∉fs->b∉ex->h'.get? b=some o
 slot:∀b o,h.get? b=some o->H b=none->b∈fs->b∉ex->∃sl,h'.get? b=some { o with slots:=sl }
 free:∀b o,h.get? b=some o->H b=none->b∉ex->H' b=none
 there:∀b o,h.get? b=some o->b∉ex->∃o',h'.get? b=some o'
 tups:∀b xs,H b=some (.tup xs)->H' b=some (.tup xs)
 frzs:∀b o u,H b=some (.frz o u)->H' b=some (.frz o u)
 tbls:∀b ps,H b=some (.tbl ps)->∃more,H' b=some (.tbl (ps++more))
section
variable {fs fs' ex ex':List Addr}{H H1 H2:Hp}{h h1 h2 h':Heap}{a x e:Addr}{o:HO}
theorem Un.any (u:Un fs ex H H1 h h1){b:Addr}{ob:Obj} (q:h.get? b=some ob) (n:H b=none) (hx:b∉ex):∃sl,h1.get? b=some { ob with slots:=sl }:=by
 by_cases hb:b∈fs
 ·exact u.slot b ob q n hb hx
 ·exact⟨ob.slots,u.keep b ob q n hb hx⟩
theorem Un.kept (k:∀b u,h.get? b=some u->h'.get? b=some u):Un fs ex H H h h':=
 ⟨λb ob q _ _ _=>k b ob q,λb ob q _ _ _=>⟨ob.slots,k b ob q⟩,λ_ _ _ n _=>n,λb ob q _=>⟨ob,k b ob q⟩,λ_ _ q=>q,λ_ _ _ q=>q,λ_ ps q=>⟨#[],by rw [q];simp⟩⟩
theorem Un.refl:Un fs ex H H h h:=Un.kept λ_ _ q=>q
theorem Un.laid (k:∀b u,h.get? b=some u->h'.get? b=some u) (hp:h.objs.size<=a) (hn:H a=none):Un fs ex H (upd H a o) h h' where
 keep:=λb u q _ _ _=>k b u q
 slot:=λb u q _ _ _=>⟨u.slots,k b u q⟩
 free:=λb u q n _=>by rw [ah (Nat.ne_of_lt (Nat.lt_of_lt_of_le (Heap.lt_size q) hp))];exact n
 there:=λb u q _=>⟨u,k b u q⟩
 tups:=λb xs q=>by rw [ah (ai q hn)];exact q
 frzs:=λb u xs q=>by rw [ah (ai q hn)];exact q
 tbls:=λb ps q=>⟨#[],by rw [ah (ai q hn),q];simp⟩
theorem Un.write (mu:Mut (H x)) (he:e=x\/H e=some (.own x)) (k:∀b u,b≠e->h.get? b=some u->h'.get? b=some u) (heo:∃u,h'.get? e=some u):Un fs ex H (upd H x o) h h':=by
 have hx:∀b,H b=none->b≠x:=λb n z=>by subst z;rw [n]at mu;exact mu
 have hb:∀b,H b=none->b≠e:=λb n z=>by
  subst z
  rcases he with r | r
  ·exact hx b n r
  ·rw [n]at r;cases r
 have hm:∀b u,H b=some u->¬Mut (some u)->b≠x:=λb u q nm z=>by subst z;rw [q]at mu;exact nm mu
 refine⟨λb u q n _ _=>k b u (hb b n) q,λb u q n _ _=>⟨u.slots,k b u (hb b n) q⟩,λb u q n _=>by rw [ah (hx b n)];exact n,λb u q _=>?_,
  λb xs q=>by rw [ah (hm b _ q λz=>z)];exact q,λb u xs q=>by rw [ah (hm b _ q λz=>z)];exact q,λb ps q=>⟨#[],by rw [ah (hm b _ q λz=>z),q];simp⟩⟩
 by_cases hbe:b=e
 ·subst hbe;exact heo
 ·exact⟨u,k b u hbe q⟩
end
noncomputable def trk (h:Heap) (H:Hp):List Addr:=(List.range h.objs.size).filter λa=>(H a).isSome
noncomputable def jL (h:Heap) (H:Hp):Heap:=PySem.W.hideAll h (trk h H)
theorem sJ (h:Heap) (H:Hp):(jL h H).objs.size=h.objs.size:=PySem.W.hideAll_size _ _
theorem wc {h:Heap}{H:Hp}{b:Addr}{o:Obj} (e:h.get? b=some o) (n:H b=none):(jL h H).get? b=some o:=
 PySem.W.hideAll_get _ e λhm=>by
  have q:(H b).isSome=true:=(List.mem_filter.mp hm).2
  rw [n]at q;simp at q
theorem ye {h:Heap}{H:Hp}{b:Addr}{o:Obj} (e:(jL h H).get? b=some o):h.get? b=some o/\H b=none:=by
 have e':h.get? b=some o:=PySem.W.of_hideAll (trk h H) e
 refine⟨e',?_⟩
 cases q:H b with
 | none=>rfl
 | some x=>
  have hm:b∈trk h H:=List.mem_filter.mpr ⟨List.mem_range.mpr (Heap.lt_size e'),by simp [q]⟩
  have z:(jL h H).get? b=none:=PySem.W.hideAll_none (trk h H) hm
  rw [z]at e;cases e
structure Mod (K:PySem.W.Frag) (mg:Str->Option Value) (base:Heap):Prop where
 kin:K.In base
 glob:base.Ns mainGlobals mg
 blt:∃mb,base.Ns builtinsNs mb/\∀x:Str,x≠"__name__"->mb x=bootBuiltins x
 nolimit:base.NoLimit
structure Cx where
 prog:Program
 w:World
 K:PySem.W.Frag
 mg:Str->Option Value
 base:Heap
 A:Around
 N:List Str
 s₀:Shared
 H₀:Hp
 env:Env
 outer:List Env
 stack:List Env
 ex:List Addr
 fn:Str->Bool
 calm:Bool
 pn:List (Addr × Obj)
 xe:Value->Shared->Prop
noncomputable def frs (l:List Env):List Addr:=l.filterMap (·.frame)
noncomputable abbrev Cx.fs (X:Cx):List Addr:=frs X.outer
def Vis (sc:Scope) (x:Str):Prop:=sc.names.lookup x=some .local\/sc.names.lookup x=some .cell\/sc.names.lookup x=some .free
def Loc (sc:Scope) (x:Str):Prop:=sc.names.lookup x=some .local\/sc.names.lookup x=some .cell
def D6 (env:Env) (h:Heap) (m:Str->Option Value) (x:Str) (u:Value):Prop:=
 (env.kindOf x=some .local/\m x=some u)\/((env.kindOf x=some .cell\/env.kindOf x=some .free)/\∃c,env.cells.lookup x=some c/\h.IsCell c (some u))
structure Cx.Ok (X:Cx):Prop where
 mod:Mod X.K X.mg X.base
 kind:X.env.scope.kind=.function
 glob:X.env.globals=mainGlobals
 blt:X.env.builtins=builtinsNs
 above:X.s₀.heap.objs.size<=X.env.locals
 inj:∀x y c,X.env.cells.lookup x=some c->X.env.cells.lookup y=some c->x=y
 has:∀x,(X.env.kindOf x=some .cell\/X.env.kindOf x=some .free)->∃c,X.env.cells.lookup x=some c
 cab:∀x c,X.fn x=true->X.env.cells.lookup x=some c->X.s₀.heap.objs.size<=c
 hd:X.calm=true->X.A.handled=none
 frames:X.A.frames=some X.stack
 stk:X.stack=X.outer\/(X.stack=X.env::X.outer/\X.env.frame=some X.env.locals)
 exf:∀b∈X.ex,b≠X.env.locals/\∀x c,X.env.cells.lookup x=some c->c≠b
 bs:∀b o,X.base.get? b=some o->X.s₀.heap.get? b=some o/\X.H₀ b=none
 bsz:X.base.objs.size<=X.s₀.heap.objs.size
 noex:∀b o,X.base.get? b=some o->b∉X.ex
 exfs:∀b∈X.ex,b∉X.fs
 funs:X.s₀.heap.FunFrames X.base X.outer
 frf:∀b∈X.fs,X.H₀ b=none
structure Inv (X:Cx) (pins:List (Addr × Obj)) (σ:List (Option V)) (H:Hp) (s:Shared):Prop where
 ok:X.Ok
 os:s.os=X.s₀.os
 bare:AllBare s.gens
 base:Un X.fs X.ex X.H₀ H X.s₀.heap s.heap
 loc:∃m,s.heap.Ns X.env.locals m/\∀(i:Nat) (x:Str) (v:V),X.N[i]?=some x->σ[i]?=some (some v)->Vis X.env.scope x->∃u,aV v u/\D6 X.env s.heap m x u
 cell:∀x c,X.env.cells.lookup x=some c->∃v,s.heap.IsCell c v
 free:H X.env.locals=none
 freeC:∀x c,X.env.cells.lookup x=some c->H c=none
 pin:∀p∈X.pn++pins,s.heap.get? p.1=some p.2/\H p.1=none/\p.1≠X.env.locals/\p.1∉X.fs/\∀v,p.2.data≠.cell v
 hok:HOk X.prog X.w H s.heap
 len:σ.length=X.N.length
section
variable {X:Cx}{pins:List (Addr × Obj)}{σ:List (Option V)}{H H':Hp}{s:Shared}{h':Heap}
theorem Cx.Ok.nofr (ok:X.Ok){b:Addr}{o:Obj} (e:X.base.get? b=some o):b∉X.fs:=λhb=>by
 have:=(ok.funs.mem hb).1
 rw [e]at this;cases this
theorem Inv.bs (I:Inv X pins σ H s):∀b o,X.base.get? b=some o->s.heap.get? b=some o/\H b=none:=λb o e=>
 ⟨I.base.keep b o (I.ok.bs b o e).1 (I.ok.bs b o e).2 (I.ok.nofr e) (I.ok.noex b o e),I.base.free b o (I.ok.bs b o e).1 (I.ok.bs b o e).2 (I.ok.noex b o e)⟩
theorem Inv.bk (I:Inv X pins σ H s):∀b o,X.base.get? b=some o->s.heap.get? b=some o:=λb o e=>(I.bs b o e).1
theorem Inv.mod (I:Inv X pins σ H s):Mod X.K X.mg X.base:=I.ok.mod
theorem Inv.kIn (I:Inv X pins σ H s):X.K.In s.heap:=I.ok.mod.kin.keeps I.bk
theorem Inv.lt (I:Inv X pins σ H s):X.env.locals < s.heap.objs.size:=let ⟨_,hn,_⟩:=I.loc;hn.lt
theorem Inv.sz (I:Inv X pins σ H s):X.s₀.heap.objs.size<=s.heap.objs.size:=Nat.le_trans I.ok.above (Nat.le_of_lt I.lt)
theorem Inv.nofs (I:Inv X pins σ H s){a:Addr} (h:s.heap.objs.size<=a):a∉X.fs:=λhb=>by
 obtain⟨_,o,ho,_⟩:=I.ok.funs.mem hb
 exact absurd (Nat.lt_of_lt_of_le (Heap.lt_size ho) (Nat.le_trans I.sz h)) (Nat.lt_irrefl _)
theorem Inv.cne (I:Inv X pins σ H s):∀x c,X.env.cells.lookup x=some c->c≠X.env.locals:=λx c e z=>by
 obtain⟨v,o,ho,hd⟩:=I.cell x c e
 obtain⟨m,⟨o',es,ep,ho',hd',_⟩,_⟩:=I.loc
 rw [z,ho']at ho;cases ho;rw [hd']at hd;cases hd
theorem Inv.funs (I:Inv X pins σ H s):s.heap.FunFrames X.base X.outer:=by
 have all:∀(l:List Env),(∀b∈frs l,b∈X.fs)->X.s₀.heap.FunFrames X.base l->s.heap.FunFrames X.base l:=by
  intro l
  induction l with
  | nil=>intro _ _;trivial
  | cons env r ih=>
   intro hs hl
   obtain⟨hk,⟨L,o,hf,hn,ho,hd⟩,hr⟩:=hl
   have hL:L∈X.fs:=hs L (by unfold frs;rw [List.filterMap_cons,hf];exact List.mem_cons_self)
   obtain⟨sl,e⟩:=I.base.slot L o ho (I.ok.frf L hL) hL λz=>I.ok.exfs L z hL
   exact⟨hk,⟨L,_,hf,hn,e,hd⟩,ih (λb hb=>hs b (by unfold frs;rw [List.filterMap_cons,hf];exact List.mem_cons_of_mem _ hb)) hr⟩
 exact all X.outer (λ_ hb=>hb) I.ok.funs
theorem Inv.stack (I:Inv X pins σ H s):s.heap.FunFrames X.base X.stack:=by
 rcases I.ok.stk with e | ⟨e,hf⟩
 ·rw [e];exact I.funs
 ·rw [e]
  obtain⟨m,hn,_⟩:=I.loc
  refine .cons (by rw [I.ok.kind];decide) hf hn ?_ I.funs
  exact Heap.get?_none_of_le (Nat.le_trans I.ok.bsz I.ok.above)
theorem Inv.stkSub (I:Inv X pins σ H s):∀b∈frs X.stack,b∈X.env.locals::X.fs:=λb hb=>by
 rcases I.ok.stk with e | ⟨e,hf⟩
 ·rw [e]at hb;exact List.mem_cons_of_mem _ hb
 ·rw [e]at hb
  unfold frs at hb
  rw [List.filterMap_cons,hf]at hb
  exact hb
theorem Inv.stkFree (I:Inv X pins σ H s):∀b∈frs X.stack,H b=none:=λb hb=>by
 rcases List.mem_cons.mp (I.stkSub b hb) with e | hb
 ·rw [e];exact I.free
 ·obtain⟨_,o,ho,_⟩:=I.ok.funs.mem hb
  exact I.base.free b o ho (I.ok.frf b hb) λz=>I.ok.exfs b z hb
theorem Inv.step {g':Array GenState}{t':Nat}{d':Drawn}{ch:List Addr} (I:Inv X pins σ H s)
  (hch:∀b∈ch,(b∈X.ex\/X.s₀.heap.objs.size<=b)/\b≠X.env.locals/\(∀x c,X.env.cells.lookup x=some c->c≠b)/\∀p∈X.pn++pins,p.1≠b)
  (keep:∀b o,b≠X.env.locals->b∉X.fs->b∉ch->s.heap.get? b=some o->H b=none->h'.get? b=some o)
  (slot:∀b o,b≠X.env.locals->b∈X.fs->b∉ch->s.heap.get? b=some o->H b=none->∃sl,h'.get? b=some { o with slots:=sl }) (free:∀b o,b∉ch->s.heap.get? b=some o->H b=none->H' b=none)
  (there:∀b o,b∉ch->s.heap.get? b=some o->∃o',h'.get? b=some o')
  (tups:∀b xs,H b=some (.tup xs)->H' b=some (.tup xs)) (frzs:∀b o u,H b=some (.frz o u)->H' b=some (.frz o u)) (tbls:∀b ps,H b=some (.tbl ps)->∃more,H' b=some (.tbl (ps++more)))
  (ns:∀m,s.heap.Ns X.env.locals m->h'.Ns X.env.locals m) (hok:HOk X.prog X.w H' h') (hg:AllBare g') :
  Inv X pins σ H' { s with heap:=h',gens:=g',drawn:=d',toks:=t' }:=by
 have neL:∀b o,X.s₀.heap.get? b=some o->b≠X.env.locals:=λb o e=>Nat.ne_of_lt (Nat.lt_of_lt_of_le (Heap.lt_size e) I.ok.above)
 have neC:∀b o,X.s₀.heap.get? b=some o->b∉X.ex->b∉ch:=λb o e hx hb=>by
  rcases (hch b hb).1 with z | z
  ·exact hx z
  ·exact absurd (Nat.lt_of_lt_of_le (Heap.lt_size e) z) (Nat.lt_irrefl _)
 have cellK:∀x c,X.env.cells.lookup x=some c->∀v,s.heap.IsCell c v->h'.IsCell c v:=λx c e v ⟨o,ho,hd⟩=>by
  have nch:c∉ch:=λz=>(hch c z).2.2.1 x c e rfl
  by_cases hc:c∈X.fs
  ·obtain⟨sl,q⟩:=slot c o (I.cne x c e) hc nch ho (I.freeC x c e)
   exact⟨_,q,hd⟩
  ·exact⟨o,keep c o (I.cne x c e) hc nch ho (I.freeC x c e),hd⟩
 refine⟨I.ok,I.os,hg,⟨λb o e n hb hx=>?_,λb o e n hb hx=>?_,λb o e n hx=>?_,λb o e hx=>?_,λb xs e=>tups b xs (I.base.tups b xs e),λb o xs e=>frzs b o xs (I.base.frzs b o xs e),λb ps e=>?_⟩,?_,λx c e=>?_,?_,λx c e=>?_,λp hp=>?_,hok,I.len⟩
 ·exact keep b o (neL b o e) hb (neC b o e hx) (I.base.keep b o e n hb hx) (I.base.free b o e n hx)
 ·obtain⟨sl,e1⟩:=I.base.slot b o e n hb hx
  obtain⟨sl',e2⟩:=slot b _ (neL b o e) hb (neC b o e hx) e1 (I.base.free b o e n hx)
  exact⟨sl',e2⟩
 ·obtain⟨o',e1⟩:=I.base.there b o e hx
  exact free b o' (neC b o e hx) e1 (I.base.free b o e n hx)
 ·obtain⟨o',e1⟩:=I.base.there b o e hx
  exact there b o' (neC b o e hx) e1
 ·obtain⟨m1,e1⟩:=I.base.tbls b ps e
  obtain⟨m2,e2⟩:=tbls b _ e1
  exact⟨m1++m2,by rw [e2,Array.append_assoc]⟩
 ·obtain⟨m,hn,hl⟩:=I.loc
  refine⟨m,ns m hn,λi x v e1 e2 e3=>?_⟩
  obtain⟨u,r,l⟩:=hl i x v e1 e2 e3
  refine⟨u,r,?_⟩
  rcases l with l | ⟨k,c,e,z⟩
  ·exact .inl l
  ·exact .inr ⟨k,c,e,cellK x c e _ z⟩
 ·obtain⟨v,z⟩:=I.cell x c e
  exact⟨v,cellK x c e v z⟩
 ·obtain⟨m,⟨o,_,_,ho,_⟩,_⟩:=I.loc
  exact free _ o (λz=>(hch _ z).2.1 rfl) ho I.free
 ·obtain⟨v,o,ho,hd⟩:=I.cell x c e
  exact free c o (λz=>(hch c z).2.2.1 x c e rfl) ho (I.freeC x c e)
 ·obtain⟨e,n,ne,nf,d⟩:=I.pin p hp
  have nch:p.1∉ch:=λz=>(hch p.1 z).2.2.2 p hp rfl
  exact⟨keep p.1 p.2 ne nf nch e n,free p.1 p.2 nch e n,ne,nf,d⟩
theorem Inv.un {t':Nat} (I:Inv X pins σ H s) (u:Un X.fs [] H H' s.heap h') (hok:HOk X.prog X.w H' h'):Inv X pins σ H' { s with heap:=h',toks:=t' }:=by
 obtain⟨m,⟨o,es,ep,ho,r⟩,_⟩:=id I.loc
 obtain⟨sl,hL⟩:=u.any ho I.free (by simp)
 exact I.step (g':=s.gens) (d':=s.drawn) (ch:=[]) (λ_ z=>nomatch z) (λb o _ hb _ e n=>u.keep b o e n hb (by simp)) (λb o _ hb _ e n=>u.slot b o e n hb (by simp)) (λb o _ e n=>u.free b o e n (by simp)) (λb o _ e=>u.there b o e (by simp)) u.tups u.frzs u.tbls (λm' hm=>by
  obtain⟨o',es',ep',ho',r'⟩:=hm
  rw [ho]at ho';cases ho'
  exact⟨_,es',ep',hL,r'⟩) hok I.bare
theorem Inv.call {g':Array GenState}{t':Nat}{d':Drawn}{ch:List Addr} (I:Inv X pins σ H s) (u:Un (frs X.stack) ch H H' s.heap h') (hok:HOk X.prog X.w H' h') (hg:AllBare g')
  (hch:∀b∈ch,(b∈X.ex\/X.s₀.heap.objs.size<=b)/\b≠X.env.locals/\(∀x c,X.env.cells.lookup x=some c->c≠b)/\∀p∈X.pn++pins,p.1≠b) :
  Inv X pins σ H' { s with heap:=h',gens:=g',drawn:=d',toks:=t' }:=by
 obtain⟨m,⟨o,es,ep,ho,r⟩,_⟩:=id I.loc
 obtain⟨sl,hL⟩:=u.any ho I.free λz=>(hch _ z).2.1 rfl
 exact I.step (ch:=ch) hch (λb o hL hb hc e n=>u.keep b o e n (λz=>(List.mem_cons.mp (I.stkSub b z)).elim hL hb) hc) (λb o _ _ hc e n=>u.any e n hc) (λb o hc e n=>u.free b o e n hc) (λb o hc e=>u.there b o e hc) u.tups u.frzs u.tbls (λm' hm=>by
  obtain⟨o',es',ep',ho',r'⟩:=hm
  rw [ho]at ho';cases ho'
  exact⟨_,es',ep',hL,r'⟩) hok hg
theorem Inv.turned {t':Nat}{it:Addr} (I:Inv X pins σ H s) (k:∀b o,b≠it->s.heap.get? b=some o->h'.get? b=some o) (hn:H it=none) (hL:it≠X.env.locals)
  (h1:it∈X.ex\/X.s₀.heap.objs.size<=it) (h2:∀x c,X.env.cells.lookup x=some c->c≠it) (h3:∀p∈X.pn++pins,p.1≠it):Inv X pins σ H { s with heap:=h',toks:=t' }:=by
 have nit:∀b u,H b=some u->b≠it:=λb u e z=>by rw [z,hn]at e;cases e
 refine I.step (g':=s.gens) (d':=s.drawn) (ch:=[it]) (λb hb=>?_) (λb o _ _ hc e _=>k b o (λz=>hc (by simp [z])) e) (λb o _ _ hc e _=>⟨o.slots,k b o (λz=>hc (by simp [z])) e⟩) (λ_ _ _ _ n=>n)
  (λb o hc e=>⟨o,k b o (λz=>hc (by simp [z])) e⟩) (λ_ _ e=>e) (λ_ _ _ e=>e) (λb ps e=>⟨#[],by rw [e];simp⟩) (λm hm=>?_) (λb u e=>?_) I.bare
 ·have e:b=it:=by simpa using hb
  subst e
  exact⟨h1,hL,h2,h3⟩
 ·obtain⟨o,es,ep,ho,r⟩:=hm
  exact⟨o,es,ep,k _ o (Ne.symm hL) ho,r⟩
 ·refine(I.hok b u e).stay (λc v hc q=>k c v ?_ q) (λ_ q=>q) λ_ _ q=>q
  rcases hc with z | z
  ·rw [z];exact nit b u e
  ·exact nit c _ z
theorem Inv.tok (I:Inv X pins σ H s) (t:Nat):Inv X pins σ H { s with toks:=t }:=I.un (h':=s.heap) (t':=t) Un.refl I.hok
theorem Inv.kept {t':Nat} (I:Inv X pins σ H s) (k:∀b u,s.heap.get? b=some u->h'.get? b=some u):Inv X pins σ H { s with heap:=h',toks:=t' }:=I.un (Un.kept k) (I.hok.kept k)
theorem Inv.laid {a:Addr}{o:HO}{t':Nat} (I:Inv X pins σ H s) (k:∀b u,s.heap.get? b=some u->h'.get? b=some u) (hp:s.heap.objs.size<=a) (new:bA X.prog X.w (upd H a o) h' a o) :
  Inv X pins σ (upd H a o) { s with heap:=h',toks:=t' }:=I.un (Un.laid k hp (I.hok.fresh hp)) (I.hok.laid k hp new)
theorem Inv.write {x e:Addr}{o:HO}{t':Nat} (I:Inv X pins σ H s) (mu:Mut (H x)) (he:e=x\/H e=some (.own x)) (k:∀b u,b≠e->s.heap.get? b=some u->h'.get? b=some u) (heo:∃u,h'.get? e=some u)
  (new:bA X.prog X.w (upd H x o) h' x o):Inv X pins σ (upd H x o) { s with heap:=h',toks:=t' }:=I.un (Un.write mu he k heo) (I.hok.write mu he k heo new)
theorem Inv.pins_of {pins':List (Addr × Obj)} (I:Inv X pins σ H s) (h:∀p∈pins',s.heap.get? p.1=some p.2/\H p.1=none/\p.1≠X.env.locals/\p.1∉X.fs/\∀v,p.2.data≠.cell v):Inv X pins' σ H s:=
 ⟨I.ok,I.os,I.bare,I.base,I.loc,I.cell,I.free,I.freeC,λp hp=>(List.mem_append.mp hp).elim (λz=>I.pin p (List.mem_append_left _ z)) (h p),I.hok,I.len⟩
theorem nW {N:List Str} (hN:N.Nodup){i j:Nat}{x:Str} (a:N[i]?=some x) (b:N[j]?=some x):i=j:=by
 obtain⟨h1,e1⟩:=List.getElem?_eq_some_iff.mp a
 obtain⟨h2,e2⟩:=List.getElem?_eq_some_iff.mp b
 exact(List.getElem_inj hN).mp (e1.trans e2.symm)
theorem kO {M:Model}{A:Around}{E:Value->Shared->Prop}{i:Nat}{x:Str}{v:V}{u:Value}{Q:Unit->Shared->Prop} (I:Inv X pins σ H s) (hN:X.N.Nodup) (hi:X.N[i]?=some x) (hx:Loc X.env.scope x) (r:aV v u)
  (h:∀s',Inv X pins (σ.set i (some v)) H s'->(∃a,Heap.SameBut a s.heap s'.heap/\(a=X.env.locals\/X.env.cells.lookup x=some a))->Q () s') (hf:X.fn x=true\/X.env.scope.names.lookup x=some .local:=by first | exact .inl rfl | exact .inr rfl | assumption):wpAny M A (storeName X.env x u) Q E s:=by
 obtain⟨m,hn,hl⟩:=id I.loc
 have hcls:(X.env.scope.kind == .class || (X.env.scope.kind == .module && X.env.locals != X.env.globals))=false:=by rw [I.ok.kind];rfl
 have hiσ:i < σ.length:=by rw [I.len];exact(List.getElem?_eq_some_iff.mp hi).1
 have cne:=I.cne
 have tracked:∀{a:Addr}{h':Heap},(∃o,s.heap.get? a=some o/\H a=none)->Heap.SameBut a s.heap h'->HOk X.prog X.w H h':=λ{a h'} ha hs b ob e=>by
  obtain⟨_,_,hfree⟩:=ha
  refine(I.hok b ob e).stay (λc w' hc q=>(hs.2 c ?_).trans q) (λ_ q=>q) λ_ _ q=>q
  rintro rfl
  rcases hc with rfl | hc
  ·rw [hfree]at e;cases e
  ·rw [hfree]at hc;cases hc
 rcases hx with hk | hk
 ·refine wpAny_storeName_local hk hn (λh' hn' hs=>?_) hcls
  obtain⟨oL,_,_,hoL,_⟩:=id hn
  refine h _ ⟨I.ok,I.os,I.bare,⟨λb o e n hb hx=>?_,λb o e n hb hx=>?_,I.base.free,λb o e hx=>?_,I.base.tups,I.base.frzs,I.base.tbls⟩,⟨_,hn',λj y v' e1 e2 e3=>?_⟩,λy c e=>?_,I.free,I.freeC,λp hp=>?_,tracked ⟨oL,hoL,I.free⟩ hs,by simpa using I.len⟩ ⟨_,hs,.inl rfl⟩
  ·exact(hs.2 b (Nat.ne_of_lt (Nat.lt_of_lt_of_le (Heap.lt_size e) I.ok.above))).trans (I.base.keep b o e n hb hx)
  ·obtain⟨sl,e1⟩:=I.base.slot b o e n hb hx
   exact⟨sl,(hs.2 b (Nat.ne_of_lt (Nat.lt_of_lt_of_le (Heap.lt_size e) I.ok.above))).trans e1⟩
  ·obtain⟨o',e1⟩:=I.base.there b o e hx
   exact⟨o',(hs.2 b (Nat.ne_of_lt (Nat.lt_of_lt_of_le (Heap.lt_size e) I.ok.above))).trans e1⟩
  ·by_cases hj:j=i
   ·subst hj
    rw [hi]at e1;cases e1
    rw [List.getElem?_set_self hiσ]at e2
    cases e2
    exact⟨u,r,.inl ⟨hk,by simp⟩⟩
   ·rw [List.getElem?_set_ne (Ne.symm hj)]at e2
    obtain⟨u',r',q⟩:=hl j y v' e1 e2 e3
    refine⟨u',r',?_⟩
    rcases q with⟨k,e⟩ | ⟨k,c,e,z⟩
    ·refine .inl ⟨k,?_⟩
     have:y≠x:=λe=>hj (nW hN e1 (e ▸ hi))
     simp [this,e]
    ·exact .inr ⟨k,c,e,z.sameBut hs (cne y c e)⟩
  ·obtain⟨w',z⟩:=I.cell y c e
   exact⟨w',z.sameBut hs (cne y c e)⟩
  ·obtain⟨e,n,ne,nf,d⟩:=I.pin p hp
   exact⟨(hs.2 p.1 ne).trans e,n,ne,nf,d⟩
 ·have hfn:X.fn x=true:=by
   rcases hf with z | z
   ·exact z
   ·rw [z]at hk;cases hk
  obtain⟨c,hc⟩:=I.ok.has x (.inl hk)
  obtain⟨w',z⟩:=I.cell x c hc
  refine wpAny_storeName_cell I.ok.kind hk hc z (λh' hc' hs=>?_)
  obtain⟨oc,hoc,hocd⟩:=id z
  refine h { s with heap:=h' } ⟨I.ok,I.os,I.bare,⟨λb o e n hb hx=>?_,λb o e n hb hx=>?_,I.base.free,λb o e hx=>?_,I.base.tups,I.base.frzs,I.base.tbls⟩,⟨m,hn.sameBut hs (Ne.symm (cne x c hc)),λj y v' e1 e2 e3=>?_⟩,λy c' e=>?_,I.free,I.freeC,λp hp=>?_,tracked ⟨oc,hoc,I.freeC x c hc⟩ hs,by simpa using I.len⟩ ⟨c,hs,.inr hc⟩
  ·exact(hs.2 b (Nat.ne_of_lt (Nat.lt_of_lt_of_le (Heap.lt_size e) (I.ok.cab x c hfn hc)))).trans (I.base.keep b o e n hb hx)
  ·obtain⟨sl,e1⟩:=I.base.slot b o e n hb hx
   exact⟨sl,(hs.2 b (Nat.ne_of_lt (Nat.lt_of_lt_of_le (Heap.lt_size e) (I.ok.cab x c hfn hc)))).trans e1⟩
  ·obtain⟨o',e1⟩:=I.base.there b o e hx
   exact⟨o',(hs.2 b (Nat.ne_of_lt (Nat.lt_of_lt_of_le (Heap.lt_size e) (I.ok.cab x c hfn hc)))).trans e1⟩
  ·by_cases hj:j=i
   ·subst hj
    rw [hi]at e1;cases e1
    rw [List.getElem?_set_self hiσ]at e2
    cases e2
    exact⟨u,r,.inr ⟨.inl hk,c,hc,hc'⟩⟩
   ·rw [List.getElem?_set_ne (Ne.symm hj)]at e2
    obtain⟨u',r',q⟩:=hl j y v' e1 e2 e3
    refine⟨u',r',?_⟩
    rcases q with q | ⟨k,c',e,z'⟩
    ·exact .inl q
    ·refine .inr ⟨k,c',e,z'.sameBut hs ?_⟩
     rintro rfl
     exact hj (nW hN e1 (I.ok.inj _ _ _ e hc ▸ hi))
  ·by_cases hcc:c'=c
   ·subst hcc;exact⟨_,hc'⟩
   ·obtain⟨w2,z2⟩:=I.cell y c' e
    exact⟨w2,z2.sameBut hs hcc⟩
  ·obtain⟨e,n,ne,nf,d⟩:=I.pin p hp
   refine⟨(hs.2 p.1 ?_).trans e,n,ne,nf,d⟩
   intro q
   rw [q,hoc]at e
   have q':oc=p.2:=Option.some.inj e
   exact d w' (by rw [<- q'];exact hocd)
theorem gB {M:Model}{A:Around}{E:Value->Shared->Prop}{i:Nat}{x:Str}{v:V}{u:Value}{Q:Unit->Shared->Prop} (I:Inv X pins σ H s) (hN:X.N.Nodup) (hi:X.N[i]?=some x) (hx:Loc X.env.scope x) (r:aV v u)
  (h:∀s',Inv X pins (σ.set i (some v)) H s'->Q () s') (hf:X.fn x=true\/X.env.scope.names.lookup x=some .local:=by first | exact .inl rfl | exact .inr rfl | assumption):wpAny M A (storeName X.env x u) Q E s:=
 kO I hN hi hx r (λs' I' _=>h s' I') hf
theorem Inv.call' {s':Shared}{ch:List Addr} (I:Inv X pins σ H s) (ho:s'.os=s.os) (u:Un (frs X.stack) ch H H' s.heap s'.heap) (hok:HOk X.prog X.w H' s'.heap) (hg:AllBare s'.gens)
  (hch:∀b∈ch,(b∈X.ex\/X.s₀.heap.objs.size<=b)/\b≠X.env.locals/\(∀x c,X.env.cells.lookup x=some c->c≠b)/\∀p∈X.pn++pins,p.1≠b):Inv X pins σ H' s':=by
 obtain⟨h',g',d',t',o'⟩:=s'
 have e:o'=s.os:=ho
 subst e
 exact I.call (g':=g') (t':=t') (d':=d') u hok hg hch
end
noncomputable abbrev XK:=Value->Option Addr->Hp->Prop
noncomputable abbrev St:=List (Option V)
noncomputable abbrev VK:=V->Hp->Prop
noncomputable abbrev TE:=St->Hp->VK->Prop
noncomputable abbrev TT:=St->Hp->(Bool->Hp->Prop)->Prop
noncomputable abbrev TA:=St->Hp->(List V->Hp->Prop)->Prop
structure Ends where
 nx:St->Hp->Prop
 rt:VK
 bk:St->Hp->Prop:=λ_ _=>False
 ct:St->Hp->Prop:=λ_ _=>False
noncomputable abbrev TS:=Ends->St->Hp->Prop
inductive EP (X:Cx) (pins:List (Addr × Obj)) (σ:St) (Q:VK) (u:Value) (s':Shared):Prop
 | mk (v H') (h1:Inv X pins σ H' s') (h2:aV v u) (h3:Q v H')
def TP (X:Cx) (pins:List (Addr × Obj)) (σ:St) (Q:Bool->Hp->Prop) (b:Bool) (s':Shared):Prop:=∃H',Inv X pins σ H' s'/\Q b H'
inductive AP (X:Cx) (pins:List (Addr × Obj)) (σ:St) (Q:List V->Hp->Prop) (us:List Value) (s':Shared):Prop
 | mk (vs H') (h1:Inv X pins σ H' s') (h2:aM vs us) (h3:Q vs H')
def SP (X:Cx) (pins:List (Addr × Obj)) (D:Ends) (f:Flow) (s':Shared):Prop:=
 match f with
 | .next=>∃σ' H',Inv X pins σ' H' s'/\D.nx σ' H'
 | .brk=>∃σ' H',Inv X pins σ' H' s'/\D.bk σ' H'
 | .cont=>∃σ' H',Inv X pins σ' H' s'/\D.ct σ' H'
 | .ret u=>∃v σ' H',Inv X pins σ' H' s'/\aV v u/\D.rt v H'
def PE (X:Cx) (e:Expr) (t:TE):Prop:=
 ∀(pins:List (Addr × Obj)) (s:Shared) (σ:St) (H:Hp) (Q:VK),Inv X pins σ H s->t σ H Q->wpAny (model X.prog X.w) X.A (eval e X.env) (EP X pins σ Q) X.xe s
def PT (X:Cx) (e:Expr) (t:TT):Prop:=
 ∀(pins:List (Addr × Obj)) (s:Shared) (σ:St) (H:Hp) (Q:Bool->Hp->Prop),Inv X pins σ H s->t σ H Q->wpAny (model X.prog X.w) X.A (isTrue e X.env (eval e X.env)) (TP X pins σ Q) X.xe s
def PW (X:Cx) (e:Expr) (t:TT):Prop:=
 ∀(whole:Sem Value) (pins:List (Addr × Obj)) (s:Shared) (σ:St) (H:Hp) (Q:Bool->Hp->Prop),Inv X pins σ H s->t σ H Q->wpAny (model X.prog X.w) X.A (isTrue e X.env whole) (TP X pins σ Q) X.xe s
theorem PW.pt {X:Cx}{e:Expr}{t:TT} (h:PW X e t):PT X e t:=h _
def PA (X:Cx) (es:List Expr) (t:TA):Prop:=
 ∀(pos:Pos) (pins:List (Addr × Obj)) (s:Shared) (σ:St) (H:Hp) (Q:List V->Hp->Prop),Inv X pins σ H s->t σ H Q->wpAny (model X.prog X.w) X.A (spliced (backTo pos (starEach es X.env))) (AP X pins σ Q) X.xe s
def PS (X:Cx) (st:Stmt) (t:TS):Prop:=
 ∀(pins:List (Addr × Obj)) (s:Shared) (σ:St) (H:Hp) (D:Ends),Inv X pins σ H s->t D σ H->wpAny (model X.prog X.w) X.A (exec st X.env) (SP X pins D) X.xe s
def PSs (X:Cx) (st:List Stmt) (t:TS):Prop:=
 ∀(pins:List (Addr × Obj)) (s:Shared) (σ:St) (H:Hp) (D:Ends),Inv X pins σ H s->t D σ H->wpAny (model X.prog X.w) X.A (execs st X.env) (SP X pins D) X.xe s
theorem thn {α:Type}{t:Sem α}{Q Q':α->Shared->Prop}{M:Model}{A:Around}{E:Value->Shared->Prop}{s:Shared} (h:wpAny M A t Q E s) (hQ:∀a s,Q a s->Q' a s):wpAny M A t Q' E s:=wpAny_mono h hQ λ_ _ x=>x
section
variable {X:Cx}
inductive jf (i:Nat) (σ:St) (H:Hp) (Q:VK):Prop
 | mk (v) (h1:σ[i]?=some (some v)) (h2:Q v H):jf i σ H Q
noncomputable def tC (v:V):TE:=λ_ H Q=>Q v H
theorem Aw {i:Nat}{x:Str}{pos:Pos} (hN:X.N[i]?=some x) (hv:Vis X.env.scope x) (hd:(x == ("__debug__" : Str))=false:=by decide) (hcd:(x == ("__classdict__" : Str))=false:=by decide):PE X (.Name x pos) (jf i):=by
 intro pins s σ H Q I h
 obtain⟨v,e,h⟩:=h
 obtain⟨m,hn,hl⟩:=I.loc
 obtain⟨u,r,l⟩:=hl i x v hN e hv
 have fin:EP X pins σ Q u s:=⟨v,H,I,r,h⟩
 rcases l with⟨hk,hm⟩ | ⟨hk,c,hc,hcell⟩
 ·exact wpAny_Name (wpAny_loadName_local I.ok.kind hk hn hm fin) hd
 ·rcases hk with hk | hk
  ·exact wpAny_Name (wpAny_loadName_cell I.ok.kind hk hc hcell fin) hd
  ·exact wpAny_Name (wpAny_loadName_free I.ok.kind hk hc hcell fin hcd) hd
theorem au {i j pos}:PE X (.Constant (.int i) j pos) (tC (.int i)):=λ_ _ _ H _ I h=>wpAny_Constant_int ⟨.int i,H,I.tok _,⟨_,rfl⟩,h⟩
theorem qU {b j pos}:PE X (.Constant (.bool b) j pos) (tC (.bl b)):=λ_ _ _ H _ I h=>Constant_bool ⟨.bl b,H,I,rfl,h⟩
theorem gi {j pos}:PE X (.Constant .none j pos) (tC .non):=λ_ _ _ H _ I h=>Constant_none ⟨.non,H,I,rfl,h⟩
theorem aB {x j pos}:PE X (.Constant (.str x) j pos) (tC (.str x)):=λ_ _ _ H _ I h=>Calls.Constant_str ⟨.str x,H,I.tok _,⟨_,rfl⟩,h⟩
def Gl (X:Cx) (x:Str):Prop:=X.env.kindOf x=some .globalImplicit
theorem j4 {E:Value->Shared->Prop}{pins:List (Addr × Obj)}{s:Shared}{σ:St}{H:Hp}{x:Str}{u:Value}{pos:Pos}{Q:Value->Shared->Prop} (I:Inv X pins σ H s) (hg:Gl X x) (hm:X.mg x=some u) (h:Q u s)
  (hd:(x == ("__debug__" : Str))=false:=by decide):wpAny (model X.prog X.w) X.A (eval (.Name x pos) X.env) Q E s:=
 Calls.Name_function_global I.ok.kind hg (Calls.loadGlobal_global (by rw [I.ok.glob];exact I.mod.glob.keeps I.bk) hm h) hd
theorem gt {E:Value->Shared->Prop}{pins:List (Addr × Obj)}{s:Shared}{σ:St}{H:Hp}{x:Str}{u:Value}{pos:Pos}{Q:Value->Shared->Prop} (I:Inv X pins σ H s) (hg:Gl X x) (hm:X.mg x=none) (hv:bootBuiltins x=some u) (h:Q u s)
  (hn:x≠"__name__":=by decide) (hd:(x == ("__debug__" : Str))=false:=by decide):wpAny (model X.prog X.w) X.A (eval (.Name x pos) X.env) Q E s:=by
 obtain⟨mb,h1,h2⟩:=I.mod.blt
 exact Calls.Name_function_global I.ok.kind hg (Calls.loadGlobal_builtin (by rw [I.ok.glob];exact I.mod.glob.keeps I.bk) hm (by rw [I.ok.blt];exact h1.keeps I.bk) ((h2 x hn).trans hv) h) hd
theorem bI {x:Str}{v:V}{u:Value}{pos:Pos} (hg:Gl X x) (hm:X.mg x=some u) (r:aV v u) (hd:(x == ("__debug__" : Str))=false:=by decide):PE X (.Name x pos) (tC v):=
 λ_ _ _ H _ I h=>j4 I hg hm ⟨v,H,I,r,h⟩ hd
theorem fF {x:Str}{v:V}{u:Value}{pos:Pos} (hg:Gl X x) (hm:X.mg x=none) (hv:bootBuiltins x=some u) (r:aV v u) (hn:x≠"__name__":=by decide) (hd:(x == ("__debug__" : Str))=false:=by decide):PE X (.Name x pos) (tC v):=
 λ_ _ _ H _ I h=>gt I hg hm hv ⟨v,H,I,r,h⟩ hn hd
variable {a b:Expr}{ta tb:TE}{pos:Pos}
def PC (X:Cx) (op:CmpOp) (a b:Expr) (t:TE):Prop:=
 ∀(pins:List (Addr × Obj)) (s:Shared) (σ:St) (H:Hp) (Q:VK),Inv X pins σ H s->t σ H Q->
  wpAny (model X.prog X.w) X.A (eval a X.env) (λv s₁=>wpAny (model X.prog X.w) X.A (eval b X.env) (λu s₂=>wpAny (model X.prog X.w) X.A (compareOp op v u) (EP X pins σ Q) X.xe s₂) X.xe s₁) X.xe s
theorem nX (b:Expr){op:CmpOp} (h:op≠.In) (h2:op≠.NotIn):behindInMarks op b=false:=by
 have e1:(op == CmpOp.In)=false:=by cases op <;> first | rfl | exact absurd rfl h
 have e2:(op == CmpOp.NotIn)=false:=by cases op <;> first | rfl | exact absurd rfl h2
 cases b <;> simp [behindInMarks,e1,e2]
noncomputable def Co (ta:TE):TE:=λσ H Q=>ta σ H λx H1=>Q (.bl (decide (x=.non))) H1
noncomputable def By (ta:TE):TE:=λσ H Q=>ta σ H λx H1=>Q (.bl (!decide (x=.non))) H1
theorem aV.none_iff {x:V}{v:Value} (r:aV x v):(v == Value.none)=decide (x=.non):=by
 cases x with
 | non=>cases r;rfl
 | bl _=>cases r;rfl
 | int _=>obtain⟨t,rfl⟩:=r;rfl
 | str _=>obtain⟨t,rfl⟩:=r;rfl
 | byt _=>obtain⟨t,rfl⟩:=r;rfl
 | flt _=>obtain⟨t,rfl⟩:=r;rfl
 | ref _=>cases r;rfl
 | ty _=>cases r;rfl
theorem mn {j pos'} (ha:PE X a ta):PC X .Is a (.Constant .none j pos') (Co ta):=by
 intro pins s σ H Q I h
 refine thn (ha pins s σ H _ I h) λv s1 ⟨x,H1,I1,r1,q1⟩=>?_
 exact Constant_none (is_none_gen ⟨.bl _,H1,I1,by rw [r1.none_iff];rfl,q1⟩)
theorem mj {j pos'} (ha:PE X a ta):PC X .IsNot a (.Constant .none j pos') (By ta):=by
 intro pins s σ H Q I h
 refine thn (ha pins s σ H _ I h) λv s1 ⟨x,H1,I1,r1,q1⟩=>?_
 exact Constant_none (isnot_none_gen ⟨.bl _,H1,I1,by rw [r1.none_iff];rfl,q1⟩)
inductive tbR (x:V) (H1:Hp) (Q:Bool->Hp->Prop):Prop
 | mk (c) (h1:x=.bl c) (h2:Q c H1):tbR x H1 Q
noncomputable def tB (t:TE):TT:=λσ H Q=>t σ H λx H1=>tbR x H1 Q
theorem pT {op:CmpOp}{t:TE} (h:PC X op a b t) (h1:behindInMarks op b=false:=by first | exact nX _ (by decide) (by decide) | rfl):PE X (.Compare a [op] [b] pos) t:=λpins s σ H Q I hw=>wpAny_Compare1 (h pins s σ H Q I hw) h1
theorem mh {op:CmpOp}{t:TE} (h:PC X op a b t) (h1:behindInMarks op b=false:=by first | exact nX _ (by decide) (by decide) | rfl):PT X (.Compare a [op] [b] pos) (tB t):=by
 intro pins s σ H Q I hw
 refine wpAny_isTrue_Compare1 (thn (h pins s σ H _ I hw) λv s1 h1=>thn h1 λu s2 h2=>thn h2 λc s3 ⟨x,H1,I1,r1,q1⟩=>?_) h1
 obtain⟨d,rfl,q⟩:=q1
 cases r1
 exact wpAny_truthy_bool ⟨H1,I1,q⟩
theorem eG {e:Expr}{t:TE} (h:PE X e t) (he:∀whole,isTrue e X.env whole=(do let v <- whole;standAt e.pos;holding [v] (truthy v)):=by intro _;rfl):PT X e (tB t):=by
 intro pins s σ H Q I hw
 refine isTrue_plain (thn (h pins s σ H _ I hw) λv s1 ⟨x,H1,I1,r1,q1⟩=>?_) (he _)
 obtain⟨d,rfl,q⟩:=q1
 cases r1
 exact wpAny_truthy_bool ⟨H1,I1,q⟩
variable {tA tB':TT}{rest:List Expr}
noncomputable def Ct (t u:TT):TT:=λσ H Q=>t σ H λc H1=>if c=true then u σ H1 Q else Q false H1
noncomputable def tOr (t u:TT):TT:=λσ H Q=>t σ H λc H1=>if c=true then Q true H1 else u σ H1 Q
noncomputable def Cm (t:TT):TT:=λσ H Q=>t σ H λc H1=>Q (!c) H1
theorem xH (ha:PT X a tA):PW X (.BoolOp .And [a] pos) tA:=by
 intro wh pins s σ H Q I h
 refine isTrue_and (thn (ha pins s σ H Q I h) λc s1 e=>?_)
 cases c with
 | true=>exact isTrue_and_nil e
 | false=>exact e
theorem uX (ha:PT X a tA):PW X (.BoolOp .Or [a] pos) tA:=by
 intro wh pins s σ H Q I h
 refine isTrue_or (thn (ha pins s σ H Q I h) λc s1 e=>?_)
 cases c with
 | false=>exact isTrue_or_nil e
 | true=>exact e
theorem Aq (ha:PT X a tA) (hb:PW X (.BoolOp .And (b::rest) pos) tB'):PW X (.BoolOp .And (a::b::rest) pos) (Ct tA tB'):=by
 intro wh pins s σ H Q I h
 refine isTrue_and (thn (ha pins s σ H _ I h) λc s1 ⟨H1,I1,q1⟩=>?_)
 cases c with
 | true=>exact hb wh pins s1 σ H1 Q I1 q1
 | false=>exact⟨H1,I1,q1⟩
theorem zc (ha:PT X a tA) (hb:PW X (.BoolOp .Or (b::rest) pos) tB'):PW X (.BoolOp .Or (a::b::rest) pos) (tOr tA tB'):=by
 intro wh pins s σ H Q I h
 refine isTrue_or (thn (ha pins s σ H _ I h) λc s1 ⟨H1,I1,q1⟩=>?_)
 cases c with
 | true=>exact⟨H1,I1,q1⟩
 | false=>exact hb wh pins s1 σ H1 Q I1 q1
theorem gh (ha:PT X a tA):PT X (.UnaryOp .Not a pos) (Cm tA):=by
 intro pins s σ H Q I h
 exact isTrue_not (ha pins s σ H (λc H1=>Q (!c) H1) I h)
noncomputable def yK (ta tb:TE):TE:=λσ H Q=>ta σ H λx H1=>∃c,x=.bl c/\if c=true then tb σ H1 Q else Q (.bl false) H1
noncomputable def Cl (ta tb:TE):TE:=λσ H Q=>ta σ H λx H1=>∃c,x=.bl c/\if c=true then Q (.bl true) H1 else tb σ H1 Q
noncomputable def Bx (ta:TE):TE:=λσ H Q=>ta σ H λx H1=>∃c,x=.bl c/\Q (.bl (!c)) H1
theorem fi {op}{t:TE} (h:PE X a t):PE X (.BoolOp op [a] pos) t:=λpins s σ H Q I hw=>BoolOp_one (h pins s σ H Q I hw)
theorem fj (ha:PE X a ta) (hb:PE X (.BoolOp .And (b::rest) pos) tb):PE X (.BoolOp .And (a::b::rest) pos) (yK ta tb):=by
 intro pins s σ H Q I h
 refine BoolOp_and (thn (ha pins s σ H _ I h) λv s1 ⟨x,H1,I1,r1,q1⟩=>?_)
 obtain⟨c,rfl,q1⟩:=q1
 cases r1
 refine wpAny_truthy_bool ?_
 cases c with
 | true=>exact hb pins s1 σ H1 Q I1 q1
 | false=>exact⟨.bl false,H1,I1,rfl,q1⟩
theorem ve (ha:PE X a ta) (hb:PE X (.BoolOp .Or (b::rest) pos) tb):PE X (.BoolOp .Or (a::b::rest) pos) (Cl ta tb):=by
 intro pins s σ H Q I h
 refine BoolOp_or (thn (ha pins s σ H _ I h) λv s1 ⟨x,H1,I1,r1,q1⟩=>?_)
 obtain⟨c,rfl,q1⟩:=q1
 cases r1
 refine wpAny_truthy_bool ?_
 cases c with
 | false=>exact hb pins s1 σ H1 Q I1 q1
 | true=>exact⟨.bl true,H1,I1,rfl,q1⟩
theorem Ax (ha:PE X a ta):PE X (.UnaryOp .Not a pos) (Bx ta):=by
 intro pins s σ H Q I h
 refine UnaryOp_ (thn (ha pins s σ H _ I h) λv s1 ⟨x,H1,I1,r1,q1⟩=>?_)
 obtain⟨c,rfl,q1⟩:=q1
 cases r1
 exact not_of (wpAny_truthy_bool ⟨.bl (!c),H1,I1,rfl,q1⟩)
noncomputable def tIf (t:TT) (ta tb:TE):TE:=λσ H Q=>t σ H λc H1=>if c=true then ta σ H1 Q else tb σ H1 Q
theorem jB {c:Expr} (hc:PT X c tA) (ha:PE X a ta) (hb:PE X b tb):PE X (.IfExp c a b pos) (tIf tA ta tb):=by
 intro pins s σ H Q I h
 refine wpAny_IfExp (thn (hc pins s σ H _ I h) λd s1 ⟨H1,I1,q1⟩=>?_)
 cases d with
 | true=>exact ha pins s1 σ H1 Q I1 q1
 | false=>exact hb pins s1 σ H1 Q I1 q1
end
def SqL (K:PySem.W.Frag) (H:Hp) (a:Addr) (xs:List V):Prop:=
 Rd H a (.lst xs)\/
  ∃(o:Obj) (its:Array Value) (n:Nat),K.lookup a=some o/\o.cls=.type "list"/\o.dict=none/\o.data=.seq its n/\its.size<=sizeLine/\aM xs its.toList
def SqT (K:PySem.W.Frag) (H:Hp) (a:Addr) (xs:List V):Prop:=
 Rd H a (.tup xs)\/
  ∃(o:Obj) (its:Array Value) (n:Nat),K.lookup a=some o/\o.cls=.type "tuple"/\o.data=.seq its n/\its.size<=sizeLine/\aM xs its.toList
noncomputable def D5:Value->Option V
 | .none=>some .non
 | .bool b=>some (.bl b)
 | .int i _=>some (.int i)
 | .str x _=>some (.str x)
 | .bytes b _=>some (.byt b)
 | .float b _=>some (.flt b)
 | .ref a=>some (.ref a)
 | .type n=>some (.ty n)
 | _=>none
theorem aV.abs {x:V}{u:Value} (r:aV x u):D5 u=some x:=by
 cases x with
 | non=>cases r;rfl
 | bl _=>cases r;rfl
 | int _=>obtain⟨t,rfl⟩:=r;rfl
 | str _=>obtain⟨t,rfl⟩:=r;rfl
 | byt _=>obtain⟨t,rfl⟩:=r;rfl
 | flt _=>obtain⟨t,rfl⟩:=r;rfl
 | ref _=>cases r;rfl
 | ty _=>cases r;rfl
theorem aV.inj {x y:V}{u:Value} (r:aV x u) (q:aV y u):x=y:=Option.some.inj (r.abs.symm.trans q.abs)
theorem aM.inj:∀{xs ys:List V}{us:List Value},aM xs us->aM ys us->xs=ys
 | _,_,_,.nil,.nil=>rfl
 | _,_,_,.cons r t,.cons r' t'=>by rw [r.inj r',aM.inj t t']
section
variable {X:Cx}{pins:List (Addr × Obj)}{σ:St}{H:Hp}{s:Shared}{a:Addr}{xs ys:List V}
theorem SqL.of {K:W.Frag} (h:H a=some (.lst xs)):SqL K H a xs:=.inl (.inl h)
theorem SqT.of {K:W.Frag} (h:H a=some (.tup xs)):SqT K H a xs:=.inl (.inl h)
theorem Inv.list (I:Inv X pins σ H s) (h:SqL X.K H a xs):∃its:List Value,aM xs its/\PlainL s.heap a its.toArray/\xs.length<=sizeLine:=by
 rcases h with h | ⟨o,its,n,hk,hc,hd,hs,hz,r⟩
 ·obtain⟨z,its,n,r,e⟩:=h.ok I.hok
  exact⟨its,r,⟨_,n,e,rfl,rfl,rfl⟩,z⟩
 ·refine⟨its.toList,r,⟨o,n,I.kIn a o hk,hc,hd,by simpa using hs⟩,?_⟩
  have e:=r.length
  simp only [Array.length_toList]at e
  omega
theorem Inv.tuple (I:Inv X pins σ H s) (h:SqT X.K H a xs):∃its:List Value,aM xs its/\IsTup s.heap a its.toArray/\xs.length<=sizeLine:=by
 rcases h with h | ⟨o,its,n,hk,hc,hs,hz,r⟩
 ·obtain⟨z,its,r,p⟩:=h.ok I.hok
  exact⟨its,r,p,z⟩
 ·refine⟨its.toList,r,⟨o,I.kIn a o hk,hc,n,by simpa using hs⟩,?_⟩
  have e:=r.length
  simp only [Array.length_toList]at e
  omega
theorem Inv.list_inj (I:Inv X pins σ H s) (h:SqL X.K H a xs) (h':SqL X.K H a ys):xs=ys:=by
 obtain⟨its,r,⟨o,n,e,_,_,d⟩,_⟩:=I.list h
 obtain⟨its',r',⟨o',n',e',_,_,d'⟩,_⟩:=I.list h'
 rw [e]at e';cases e'
 rw [d]at d'
 injection d' with d1 _
 have:its=its':=by simpa using congrArg Array.toList d1
 subst this
 exact r.inj r'
theorem Inv.tuple_inj (I:Inv X pins σ H s) (h:SqT X.K H a xs) (h':SqT X.K H a ys):xs=ys:=by
 obtain⟨its,r,⟨o,e,_,n,d⟩,_⟩:=I.tuple h
 obtain⟨its',r',⟨o',e',_,n',d'⟩,_⟩:=I.tuple h'
 rw [e]at e';cases e'
 rw [d]at d'
 injection d' with d1 _
 have:its=its':=by simpa using congrArg Array.toList d1
 subst this
 exact r.inj r'
end
noncomputable abbrev Cx.wish (X:Cx) (E:Value->Shared->Prop):Cx:={ X with xe:=E }
noncomputable abbrev Cx.nox (X:Cx):Cx:=X.wish λ_ _=>False
theorem Cx.Ok.wish {X:Cx} (ok:X.Ok) (E:Value->Shared->Prop):(X.wish E).Ok:=
 ⟨ok.mod,ok.kind,ok.glob,ok.blt,ok.above,ok.inj,ok.has,ok.cab,ok.hd,ok.frames,ok.stk,ok.exf,ok.bs,ok.bsz,ok.noex,ok.exfs,ok.funs,ok.frf⟩
theorem Cx.Ok.unwish {X:Cx}{E:Value->Shared->Prop} (ok:(X.wish E).Ok):X.Ok:=
 ⟨ok.mod,ok.kind,ok.glob,ok.blt,ok.above,ok.inj,ok.has,ok.cab,ok.hd,ok.frames,ok.stk,ok.exf,ok.bs,ok.bsz,ok.noex,ok.exfs,ok.funs,ok.frf⟩
section
variable {X:Cx}{pins:List (Addr × Obj)}{σ:St}{H:Hp}{s:Shared}{E:Value->Shared->Prop}
theorem Inv.wish (I:Inv X pins σ H s) (E:Value->Shared->Prop):Inv (X.wish E) pins σ H s:=⟨I.ok.wish E,I.os,I.bare,I.base,I.loc,I.cell,I.free,I.freeC,I.pin,I.hok,I.len⟩
theorem Inv.unwish (I:Inv (X.wish E) pins σ H s):Inv X pins σ H s:=⟨I.ok.unwish,I.os,I.bare,I.base,I.loc,I.cell,I.free,I.freeC,I.pin,I.hok,I.len⟩
theorem SP.unwish {D:Ends}{f:Flow}{s':Shared} (h:SP (X.wish E) pins D f s'):SP X pins D f s':=by
 cases f with
 | next=>obtain⟨σ',H',I,q⟩:=h;exact⟨σ',H',I.unwish,q⟩
 | brk=>obtain⟨σ',H',I,q⟩:=h;exact⟨σ',H',I.unwish,q⟩
 | cont=>obtain⟨σ',H',I,q⟩:=h;exact⟨σ',H',I.unwish,q⟩
 | ret u=>obtain⟨v,σ',H',I,r,q⟩:=h;exact⟨v,σ',H',I.unwish,r,q⟩
theorem PSs.nox {st:List Stmt}{t:TS} (h:PSs X.nox st t):PSs X st t:=λpins s σ H D I hw=>
 wpAny_mono (h pins s σ H D (I.wish _) hw) (λ_ _ q=>q.unwish) λ_ _ z=>False.elim z
end
section
variable {X:Cx}{st:Stmt}{rest:List Stmt}{t u:TS}{e:Expr}{te:TE}{pos:Pos}
noncomputable def yH:TS:=λD σ H=>D.nx σ H
noncomputable def xa (t u:TS):TS:=λD σ H=>t { D with nx:=u D } σ H
theorem aI:PSs X [] yH:=λ_ _ σ H _ I h=>wpAny_execs_nil ⟨σ,H,I,h⟩
theorem af (h1:PS X st t) (h2:PSs X rest u):PSs X (st::rest) (xa t u):=by
 intro pins s σ H D I h
 refine wpAny_execs_cons (thn (h1 pins s σ H { D with nx:=u D } I h) λf s1 q=>?_)
 cases f with
 | next=>
  obtain⟨σ',H',I',q⟩:=q
  exact h2 pins s1 σ' H' D I' q
 | ret v=>exact q
 | brk=>exact q
 | cont=>exact q
theorem ao (h1:PS X st t):PSs X [st] t:=by
 intro pins s σ H D I h
 refine wpAny_execs_cons (thn (h1 pins s σ H D I h) λf s1 q=>?_)
 cases f with
 | next=>exact wpAny_execs_nil q
 | ret v=>exact q
 | brk=>exact q
 | cont=>exact q
theorem Inv.quiet {pins:List (Addr × Obj)}{σ:St}{H:Hp}{s:Shared} (I:Inv X pins σ H s):interactive X.env=false:=by simp [interactive,I.ok.kind]
noncomputable def yJ (te:TE):TS:=λD σ H=>te σ H λ_ H1=>D.nx σ H1
theorem aY (he:PE X e te) (hs:swapsWith e none pos.line X.env=pure false:=by rfl):PS X (.Expr e pos) (yJ te):=by
 intro pins s σ H D I h
 exact wpAny_Expr_any (thn (he pins s σ H _ I h) λv s1 ⟨x,H1,I1,r1,q1⟩=>⟨σ,H1,I1,q1⟩) I.quiet hs
noncomputable def Bv (te:TE):TS:=λD σ H=>te σ H D.rt
theorem ay (he:PE X e te):PS X (.Return (some e) pos) (Bv te):=by
 intro pins s σ H D I h
 exact wpAny_Return_some (thn (he pins s σ H _ I h) λv s1 ⟨x,H1,I1,r1,q1⟩=>⟨x,σ,H1,I1,r1,q1⟩)
noncomputable def BA (c:TT) (t u:TS):TS:=λD σ H=>c σ H λb H1=>if b=true then t D σ H1 else u D σ H1
theorem bt {c:Expr}{a b:List Stmt}{tc:TT} (hc:PT X c tc) (ha:PSs X a t) (hb:PSs X b u):PS X (.If c a b pos) (BA tc t u):=by
 intro pins s σ H D I h
 refine wpAny_If (thn (hc pins s σ H _ I h) λd s1 ⟨H1,I1,q1⟩=>?_)
 cases d with
 | true=>exact ha pins s1 σ H1 D I1 q1
 | false=>exact hb pins s1 σ H1 D I1 q1
noncomputable def zI:TS:=λ_ _ _=>False
theorem gI:PS X st zI:=λ_ _ _ _ _ _ h=>h.elim
end
noncomputable abbrev TG:=V->St->Hp->(St->Hp->Prop)->Prop
noncomputable abbrev TGs:=List V->St->Hp->(St->Hp->Prop)->Prop
def PG (X:Cx) (target:Expr) (t:TG):Prop:=
 ∀(pins:List (Addr × Obj)) (s:Shared) (σ:St) (H:Hp) (v:V) (u:Value) (Q:St->Hp->Prop),Inv X pins σ H s->aV v u->t v σ H Q->
  wpAny (model X.prog X.w) X.A (assign target X.env u) (λ_ s'=>∃σ' H',Inv X pins σ' H' s'/\Q σ' H') X.xe s
def PGs (X:Cx) (ts:List Expr) (t:TGs):Prop:=
 ∀(pins:List (Addr × Obj)) (s:Shared) (σ:St) (H:Hp) (vs:List V) (us:List Value) (Q:St->Hp->Prop),Inv X pins σ H s->aM vs us->t vs σ H Q->
  wpAny (model X.prog X.w) X.A (assignInOrder ((assignEach ts X.env).map (·.2)) us) (λ_ s'=>∃σ' H',Inv X pins σ' H' s'/\Q σ' H') X.xe s
noncomputable abbrev Bh:=V->V->V->Hp->(Hp->Prop)->Prop
def Ce (X:Cx) (t:Bh):Prop:=
 ∀(pins:List (Addr × Obj)) (s:Shared) (σ:St) (H:Hp) (o i v:V) (ov iv u:Value) (Q:Hp->Prop),Inv X pins σ H s->aV o ov->aV i iv->aV v u->t o i v H Q->
  wpAny (model X.prog X.w) X.A (setItem ov iv u) (λ_ s'=>∃H',Inv X pins σ H' s'/\Q H') X.xe s
section
variable {X:Cx}{pos:Pos}
noncomputable def aF (i:Nat):TG:=λv σ H Q=>Q (σ.set i (some v)) H
theorem bC {i:Nat}{x:Str} (hN:X.N.Nodup) (hi:X.N[i]?=some x) (hx:Loc X.env.scope x) (hf:X.fn x=true\/X.env.scope.names.lookup x=some .local:=by first | exact .inl rfl | exact .inr rfl | assumption):PG X (.Name x pos) (aF i):=by
 intro pins s σ H v u Q I r h
 exact wpAny_assign_Name (gB I hN hi hx r (λs' I'=>⟨_,H,I',h⟩) hf)
noncomputable def CY:TGs:=λvs σ H Q=>vs=[]/\Q σ H
inductive zt (t:TG) (u:TGs) (vs:List V) (σ:St) (H:Hp) (Q:St->Hp->Prop):Prop
 | mk (v r) (h1:vs=v::r) (h2:t v σ H λσ' H'=>u r σ' H' Q):zt t u vs σ H Q
theorem iW:PGs X [] CY:=by
 intro pins s σ H vs us Q I r h
 obtain⟨e,h⟩:=h
 subst e
 cases r
 exact assignInOrder_nil ⟨σ,H,I,h⟩
theorem cx {e:Expr}{es:List Expr}{t:TG}{u:TGs} (h1:PG X e t) (h2:PGs X es u)
  (hs:(assignEach (e::es) X.env).map (·.2)=assign e X.env::(assignEach es X.env).map (·.2):=by rfl):PGs X (e::es) (zt t u):=by
 intro pins s σ H vs us Q I r h
 obtain⟨v,vr,e1,h⟩:=h
 subst e1
 cases r with
 | cons r rr=>
  rw [hs]
  refine assignInOrder_cons (thn (h1 pins s σ H _ _ _ I r h) λ_ s1 ⟨σ1,H1,I1,q1⟩=>?_)
  exact h2 pins s1 σ1 H1 _ _ Q I1 rr q1
inductive C4 (K:PySem.W.Frag) (n:Nat) (t:TGs) (v:V) (σ:St) (H:Hp) (Q:St->Hp->Prop):Prop
 | mk (a xs) (h1:v=.ref a) (h2:SqT K H a xs) (h3:xs.length=n) (h4:t xs σ H Q):C4 K n t v σ H Q
theorem mi {es:List Expr}{k:Nat}{t:TGs}{n:Nat} (hc:X.calm=true) (h:PGs X es t)
  (hn:(assignEach es X.env).length=n:=by rfl) (hst:(assignEach es X.env).findIdx? (·.1)=none:=by rfl):PG X (.Tuple es k pos) (C4 X.K n t):=by
 intro pins s σ H v u Q I r hw
 obtain⟨a,xs,e1,hq,hl,hw⟩:=hw
 subst e1
 cases r
 obtain⟨its,rv,ht,hz⟩:=I.tuple hq
 refine assign_Tuple_tuple (I.ok.hd hc) ht (by simp [hn,<- hl,rv.length]) hst λh' hx=>?_
 have I1:Inv X pins σ H { s with heap:=h' }:=I.kept (t':=s.toks) λb o e=>hx b o (Nat.ne_of_lt (Heap.lt_size e)) e
 exact h pins _ σ H xs _ Q I1 (by simpa using rv) hw
noncomputable def CW (to ti:TE) (t:Bh):TG:=λv σ H Q=>to σ H λo H1=>ti σ H1 λi H2=>t o i v H2 λH3=>Q σ H3
theorem vb {o i:Expr}{to ti:TE}{t:Bh} (ho:PE X o to) (hi:PE X i ti) (hs:Ce X t)
  (ha:∀v,assign (.Subscript o i pos) X.env v=(do
   let ov <- holding [v] (eval o X.env)
   let iv <- holding [v,ov] (eval i X.env)
   standAt pos
   holding [v,ov,iv] (setItem ov iv v)
   release [v,ov,iv] []):=by intro _;rfl):PG X (.Subscript o i pos) (CW to ti t):=by
 intro pins s σ H v u Q I r h
 rw [ha]
 refine zB0 (wpAny_holding (thn (ho pins s σ H _ I h) λov s1 ⟨x,H1,I1,r1,q1⟩=>?_))
 refine zB0 (wpAny_holding (thn (hi pins s1 σ H1 _ I1 q1) λiv s2 ⟨y,H2,I2,r2,q2⟩=>?_))
 refine zB0 (wpAny_standAt (zB0 (wpAny_holding (thn (hs pins s2 σ H2 x y v ov iv u _ I2 r1 r2 r q2) λ_ s3 ⟨H3,I3,q3⟩=>?_))))
 exact wpAny_release ⟨σ,H3,I3,q3⟩
noncomputable def xc (te:TE) (g:TG):TS:=λD σ H=>te σ H λx H1=>g x σ H1 D.nx
theorem ij {tg e:Expr}{te:TE}{g:TG} (he:PE X e te) (hg:PG X tg g) (hs:swapsWithSole [tg] e pos.line X.env=pure false:=by rfl) (hw:swappedStores [tg] e X.env=pure none:=by rfl)
  (h1:(assignEach [tg] X.env).map (·.2)=[assign tg X.env]:=by rfl):PS X (.Assign [tg] e pos) (xc te g):=by
 intro pins s σ H D I h
 refine wpAny_Assign_stores (thn (he pins s σ H _ I h) λv s1 ⟨x,H1,I1,r1,q1⟩=>?_) hs hw
 rw [h1]
 exact thn (hg pins s1 σ H1 x v _ I1 r1 q1) λ_ s2 q=>q
theorem aE {i:Nat}{x:Str}{e:Expr}{te:TE}{pos':Pos} (hN:X.N.Nodup) (hi:X.N[i]?=some x) (hx:Loc X.env.scope x) (he:PE X e te) (hs:swapsWith e (some (.Name x pos')) pos.line X.env=pure false:=by rfl) (hf:X.fn x=true\/X.env.scope.names.lookup x=some .local:=by first | exact .inl rfl | exact .inr rfl | assumption) :
  PS X (.Assign [.Name x pos'] e pos) (xc te (aF i)):=by
 intro pins s σ H D I h
 refine wpAny_Assign_Name (thn (he pins s σ H _ I h) λv s1 ⟨y,H1,I1,r1,q1⟩=>?_) hs
 exact gB I1 hN hi hx r1 (λs2 I2=>⟨_,H1,I2,q1⟩) hf
end
section
variable {X:Cx}{pos:Pos}
noncomputable def tO (c:TT) (tb:TS):TS:=λD σ H=>∃W:Nat->St->Hp->Prop,(∃m,W m σ H)/\∀m σ H,W m σ H->
 c σ H λb H1=>if b=true then ∃N:St->Hp->Prop,(∀σ' H',N σ' H'->∃m',m' < m/\W m' σ' H')/\tb { D with nx:=N,ct:=N,bk:=D.nx } σ H1 else D.nx σ H1
theorem uZ {c:Expr}{body:List Stmt}{tc:TT}{tb:TS} (hp:PassesOwn (model X.prog X.w) X.A X.env X.xe) (hc:PT X c tc) (hb:PSs X body tb):PS X (.While c body [] pos) (tO tc tb):=by
 intro pins s σ H D I h
 obtain⟨W,⟨m0,w0⟩,turn⟩:=h
 refine wpAny_While (codeAny_whileLoop (λn s'=>∃σ' H',Inv X pins σ' H' s'/\W n σ' H') ?_ m0 ⟨σ,H,I,w0⟩)
 rintro n s1 ⟨σ1,H1,I1,w1⟩
 refine wpAny_passesOwn hp (thn (hc pins s1 σ1 H1 _ I1 (turn n σ1 H1 w1)) λb s2 ⟨H2,I2,q2⟩=>?_)
 cases b with
 | true=>
  obtain⟨N,hN,q2⟩:=q2
  rw [if_pos rfl]
  refine wpAny_passesOwn hp (thn (hb pins s2 σ1 H2 _ I2 q2) λf s3 q3=>?_)
  cases f with
  | next=>
   obtain⟨σ3,H3,I3,n3⟩:=q3
   obtain⟨m',hm,w3⟩:=hN σ3 H3 n3
   exact⟨m',hm,σ3,H3,I3,w3⟩
  | cont=>
   obtain⟨σ3,H3,I3,n3⟩:=q3
   obtain⟨m',hm,w3⟩:=hN σ3 H3 n3
   exact⟨m',hm,σ3,H3,I3,w3⟩
  | brk=>exact q3
  | ret v=>exact q3
 | false=>
  rw [if_neg Bool.false_ne_true]
  exact wpAny_execs_nil ⟨σ1,H2,I2,q2⟩
end
structure It where
 go:Nat->Hp->Prop
 yld:Nat->Hp->V->Hp->Prop
 stop:Nat->Hp->Prop
def iA (X:Cx) (pins:List (Addr × Obj)) (H:Hp) (b:Addr):Prop:=
 H b=none/\b≠X.env.locals/\b∉X.fs/\(b∈X.ex\/X.s₀.heap.objs.size<=b)/\(∀x c,X.env.cells.lookup x=some c->c≠b)/\∀p∈X.pn++pins,p.1≠b
theorem Inv.fpOk {X:Cx}{pins:List (Addr × Obj)}{σ:St}{H H':Hp}{s:Shared}{b:Addr} (I:Inv X pins σ H s) (hb:s.heap.objs.size<=b) (hn:H' b=none):iA X pins H' b:=by
 refine⟨hn,Nat.ne_of_gt (Nat.lt_of_lt_of_le I.lt hb),I.nofs hb,.inr (Nat.le_trans I.sz hb),λx c e z=>?_,λp hp z=>?_⟩
 ·obtain⟨v,q⟩:=I.cell x c e
  exact absurd (Nat.lt_of_lt_of_le q.lt (by rw [z];exact hb)) (Nat.lt_irrefl _)
 ·exact absurd (Nat.lt_of_lt_of_le (Heap.lt_size (I.pin p hp).1) (by rw [z];exact hb)) (Nat.lt_irrefl _)
structure Turn (P:Program) (w:World) (K:PySem.W.Frag) (tg:Expr) (J:It) (fp:List Addr) (it:Addr) (tn:Nat->Heap->Prop):Prop where
 mem:it∈fp
 obj:∀i h,tn i h->∀b∈fp,∃o,h.get? b=some o/\∀v,o.data≠.cell v
 keep:∀i h h',tn i h->(∀b∈fp,∀o,h.get? b=some o->h'.get? b=some o)->tn i h'
 item:∀(X:Cx),X.prog=P->X.w=w->X.K=K->X.calm=true->∀(i:Nat) (pins:List (Addr × Obj)) (s:Shared) (σ:St) (H:Hp) (E:Value->Shared->Prop),Inv X pins σ H s->(∀b∈fp,iA X pins H b)->tn i s.heap->J.go i H->
  wpAny (model P w) X.A (pyNext (.ref it)) (λr s1=>∃u,r=some u/\
   wpAny (model P w) X.A (letOwnedTupleGo tg (.ref it) u) (λ_ s2=>∃x H',Inv X pins σ H' s2/\aV x u/\J.yld i H x H'/\tn (i+1) s2.heap/\∀b∈fp,H' b=none) E s1) E s
 done:∀(X:Cx),X.prog=P->X.w=w->X.K=K->X.calm=true->∀(i:Nat) (pins:List (Addr × Obj)) (s:Shared) (σ:St) (H:Hp) (E:Value->Shared->Prop),Inv X pins σ H s->(∀b∈fp,iA X pins H b)->tn i s.heap->J.stop i H->
  wpAny (model P w) X.A (pyNext (.ref it)) (λr s1=>r=none/\Inv X pins σ H s1) E s
 self:∀(A:Around) (i:Nat) (s:Shared) (Q:Value->Shared->Prop) (E:Value->Shared->Prop),tn i s.heap->Q (.ref it) s->wpAny (model P w) A (pyIter (.ref it)) Q E s
noncomputable abbrev TI:=St->Hp->(It->Hp->Prop)->Prop
def PIE (X:Cx) (pins:List (Addr × Obj)) (σ:St) (tg:Expr) (R:It->Hp->Prop) (itv:Value) (s2:Shared):Prop:=
 ∃(it:Addr) (fp:List Addr) (tn:Nat->Heap->Prop) (J:It) (H':Hp),itv=.ref it/\Inv X pins σ H' s2/\Turn X.prog X.w X.K tg J fp it tn/\tn 0 s2.heap/\(∀b∈fp,iA X pins H' b)/\R J H'
def PI (X:Cx) (tg iter:Expr) (wi:TI):Prop:=
 ∀(pins:List (Addr × Obj)) (s:Shared) (σ:St) (H:Hp) (R:It->Hp->Prop),Inv X pins σ H s->wi σ H R->
  wpAny (model X.prog X.w) X.A (eval iter X.env) (λv s1=>wpAny (model X.prog X.w) X.A (pyIter v) (PIE X pins σ tg R) X.xe s1) X.xe s
theorem oA {M : Model} {A : Around} {E : Value → Shared → Prop} {s : Shared} {tg : Expr} {it : Addr} {u : Value} {o : Obj} {n : String} {vs : Array Value} {Q : Unit → Shared → Prop} (ho : s.heap.get? it = some o) (hc : o.cls = .type n) (hd : o.data = .fields vs)
    (hn : ["enumerate", "zip", "dict_itemiterator", "dict_reverseitemiterator", "odict_iterator", "itertools.zip_longest", "itertools.pairwise"].contains n = false) (hQ : Q () s) : wpAny M A (letOwnedTupleGo tg (.ref it) u) Q E s := by
  unfold letOwnedTupleGo
  cases tg <;> first
    | exact zP0 hQ
    | (cases u <;> first
        | exact zP0 hQ
        | (refine zB0 (wpAny_load ho ?_)
           rw [hc, hd]
           show wpAny M A (if (["enumerate", "zip", "dict_itemiterator", "dict_reverseitemiterator", "odict_iterator", "itertools.zip_longest", "itertools.pairwise"].contains n && vs[0]? == some (rawInt _)) = true then _ else _) Q E s
           rw [if_neg (by intro h; rw [hn, Bool.false_and] at h; cases h)]
           exact zP0 hQ))
noncomputable def Itl (K:PySem.W.Frag) (a:Addr):It:=
 ⟨λi H=>∃xs x,SqL K H a xs/\xs[i]?=some x,λi H x H'=>H'=H/\∀xs,SqL K H a xs->xs[i]?=some x,λi H=>∃xs,SqL K H a xs/\xs.length<=i⟩
noncomputable def Itt (K:PySem.W.Frag) (a:Addr):It:=
 ⟨λi H=>∃xs x,SqT K H a xs/\xs[i]?=some x,λi H x H'=>H'=H/\∀xs,SqT K H a xs->xs[i]?=some x,λi H=>∃xs,SqT K H a xs/\xs.length<=i⟩
noncomputable def Itr (lo:Int) (n:Nat):It:=⟨λi _=>i < n,λi H x H'=>H'=H/\x=.int (lo+i),λi _=>n<=i⟩
theorem rN {P:Program}{w:World}{K:W.Frag}{tg:Expr} (a it:Addr):Turn P w K tg (Itl K a) [it] it (λi h=>h.IsListIter it a i) where
 mem:=by simp
 obj:=λi h st b hb=>by
  have e:b=it:=by simpa using hb
  subst e
  obtain⟨o,e,c,d⟩:=st
  exact⟨o,e,λv z=>by rw [d]at z;cases z⟩
 keep:=λi h h' st k=>st.at λo e=>k it (by simp) o e
 item:=by
  intro X hP hw hK hc i pins s σ H E I hf st hg
  subst hP hw hK
  obtain⟨xs,x,hq,hx⟩:=hg
  obtain⟨its,rv,p,hz⟩:=I.list hq
  obtain⟨u,hu,ru⟩:=rv.get hx
  obtain⟨f0,f1,f2,f3,f4,f5⟩:=hf it (by simp)
  refine wpAny_pyNext_list_item st p.isList (x:=u) (by simpa using hu) λh' st' sb=>?_
  have I1:Inv X pins σ H { s with heap:=h' }:=I.turned (t':=s.toks) (λb o hb e=>(sb.2 b hb).trans e) f0 f1 f3 f4 f5
  obtain⟨o,e,c,d⟩:=id st'
  exact⟨u,rfl,oA (s:={ s with heap:=h' }) e c d (by decide) ⟨x,H,I1,ru,⟨rfl,λys hy=>by rw [I.list_inj hy hq];exact hx⟩,st',λb hb=>(hf b hb).1⟩⟩
 done:=by
  intro X hP hw hK hc i pins s σ H E I hf st hg
  subst hP hw hK
  obtain⟨xs,hq,hx⟩:=hg
  obtain⟨its,rv,p,hz⟩:=I.list hq
  obtain⟨f0,f1,f2,f3,f4,f5⟩:=hf it (by simp)
  have hl:=rv.length
  exact wpAny_pyNext_list_end (I.ok.hd hc) st p.isList (by simp;omega) λh' eb=>⟨rfl,I.turned (t':=s.toks) (λb o hb e=>eb b o hb e) f0 f1 f3 f4 f5⟩
 self:=λ_ _ _ _ _ st h=>wpAny_pyIter_listiter st h
theorem oX {P:Program}{w:World}{K:W.Frag}{tg:Expr} (a it:Addr):Turn P w K tg (Itt K a) [it] it (λi h=>h.IsTupleIter it a i) where
 mem:=by simp
 obj:=λi h st b hb=>by
  have e:b=it:=by simpa using hb
  subst e
  obtain⟨o,e,c,d⟩:=st
  exact⟨o,e,λv z=>by rw [d]at z;cases z⟩
 keep:=λi h h' st k=>st.at λo e=>k it (by simp) o e
 item:=by
  intro X hP hw hK hc i pins s σ H E I hf st hg
  subst hP hw hK
  obtain⟨xs,x,hq,hx⟩:=hg
  obtain⟨its,rv,p,hz⟩:=I.tuple hq
  obtain⟨u,hu,ru⟩:=rv.get hx
  obtain⟨f0,f1,f2,f3,f4,f5⟩:=hf it (by simp)
  refine wpAny_pyNext_tuple_item st (show s.heap.IsTuple a its.toArray from p) (x:=u) (by simpa using hu) λh' st' sb=>?_
  have I1:Inv X pins σ H { s with heap:=h' }:=I.turned (t':=s.toks) (λb o hb e=>(sb.2 b hb).trans e) f0 f1 f3 f4 f5
  obtain⟨o,e,c,d⟩:=id st'
  exact⟨u,rfl,oA (s:={ s with heap:=h' }) e c d (by decide) ⟨x,H,I1,ru,⟨rfl,λys hy=>by rw [I.tuple_inj hy hq];exact hx⟩,st',λb hb=>(hf b hb).1⟩⟩
 done:=by
  intro X hP hw hK hc i pins s σ H E I hf st hg
  subst hP hw hK
  obtain⟨xs,hq,hx⟩:=hg
  obtain⟨its,rv,p,hz⟩:=I.tuple hq
  obtain⟨f0,f1,f2,f3,f4,f5⟩:=hf it (by simp)
  have hl:=rv.length
  exact wpAny_pyNext_tuple_end (I.ok.hd hc) st (show s.heap.IsTuple a its.toArray from p) (by simp;omega) λh' eb=>⟨rfl,I.turned (t':=s.toks) (λb o hb e=>eb b o hb e) f0 f1 f3 f4 f5⟩
 self:=λ_ _ _ _ _ st h=>wpAny_pyIter_tupleiter st h
theorem oY {P:Program}{w:World}{K:W.Frag}{tg:Expr} (it:Addr) (lo:Int) (n:Nat):Turn P w K tg (Itr lo n) [it] it (λi h=>IsRangeIter h it (lo+(i:Nat) * 1) ((n:Int) - (i:Nat)) 1) where
 mem:=by simp
 obj:=λi h st b hb=>by
  have e:b=it:=by simpa using hb
  subst e
  exact⟨_,st,λv z=>by
   have z':Data.fields _=Data.cell v:=z
   cases z'⟩
 keep:=λi h h' st k=>k it (by simp) _ st
 item:=by
  intro X hP hw hK hc i pins s σ H E I hf st hg
  subst hP hw hK
  obtain⟨f0,f1,f2,f3,f4,f5⟩:=hf it (by simp)
  have W:=Walks.range (prog:=X.prog) (w:=X.w) (I.ok.hd hc) it lo 1 n
  refine W.item i s _ _ hg st λv h' tk hv st' kk=>?_
  obtain⟨t,rfl⟩:=hv
  have I1:Inv X pins σ H { s with heap:=h',toks:=tk }:=I.turned (λb o hb e=>kk b o (by simpa using hb) e) f0 f1 f3 f4 f5
  refine⟨_,rfl,oA (s:={ s with heap:=h',toks:=tk }) (n:="range_iterator") st' rfl rfl (by decide) ⟨.int (lo+i),H,I1,⟨t,?_⟩,⟨rfl,rfl⟩,st',λb hb=>(hf b hb).1⟩⟩
  rw [Int.mul_one]
 done:=by
  intro X hP hw hK hc i pins s σ H E I hf st hg
  subst hP hw hK
  obtain⟨f0,f1,f2,f3,f4,f5⟩:=hf it (by simp)
  exact wpAny_pyNext_range_end (I.ok.hd hc) st (by have:n<=i:=hg;omega) λh' eb=>⟨rfl,I.turned (t':=s.toks) (λb o hb e=>eb b o hb e) f0 f1 f3 f4 f5⟩
 self:=λ_ _ _ _ _ st h=>wpAny_pyIter_rangeiter st h
section
variable {X:Cx}{tg:Expr}
noncomputable def zm (K:PySem.W.Frag) (tl:TE):TI:=λσ H R=>tl σ H λx H1=>∃a,x=.ref a/\(∃xs,SqL K H1 a xs)/\R (Itl K a) H1
noncomputable def CV (K:PySem.W.Frag) (tl:TE):TI:=λσ H R=>tl σ H λx H1=>∃a,x=.ref a/\(∃xs,SqT K H1 a xs)/\R (Itt K a) H1
theorem dg {l:Expr}{tl:TE} (hl:PE X l tl):PI X tg l (zm X.K tl):=by
 intro pins s σ H R I h
 refine thn (hl pins s σ H _ I h) λv s1 ⟨x,H1,I1,r1,q1⟩=>?_
 obtain⟨a,e,⟨xs,hq⟩,q⟩:=q1
 subst e
 cases r1
 obtain⟨its,rv,p,hz⟩:=I1.list hq
 refine wpAny_pyIter_list p.isList ?_
 refine⟨s1.heap.objs.size,[s1.heap.objs.size],_,_,H1,rfl,I1.kept (t':=s1.toks) λb o e=>zH0 _ e,rN a _,⟨_,Heap.get?_push_size _ rfl,rfl,rfl⟩,λb hb=>?_,q⟩
 have e:b=s1.heap.objs.size:=by simpa using hb
 subst e
 exact I1.fpOk (Nat.le_refl _) (I1.hok.fresh (Nat.le_refl _))
theorem Au {l:Expr}{tl:TE} (hl:PE X l tl):PI X tg l (CV X.K tl):=by
 intro pins s σ H R I h
 refine thn (hl pins s σ H _ I h) λv s1 ⟨x,H1,I1,r1,q1⟩=>?_
 obtain⟨a,e,⟨xs,hq⟩,q⟩:=q1
 subst e
 cases r1
 obtain⟨its,rv,p,hz⟩:=I1.tuple hq
 refine wpAny_pyIter_tuple (show s1.heap.IsTuple a its.toArray from p) ?_
 refine⟨s1.heap.objs.size,[s1.heap.objs.size],_,_,H1,rfl,I1.kept (t':=s1.toks) λb o e=>zH0 _ e,oX a _,⟨_,Heap.get?_push_size _ rfl,rfl,rfl⟩,λb hb=>?_,q⟩
 have e:b=s1.heap.objs.size:=by simpa using hb
 subst e
 exact I1.fpOk (Nat.le_refl _) (I1.hok.fresh (Nat.le_refl _))
theorem nH {pins:List (Addr × Obj)}{σ:St}{H:Hp}{s:Shared}{R:It->Hp->Prop}{E:Value->Shared->Prop}{lo hi:Int}{t u v:Tok}{tk:Nat} (I:Inv X pins σ H s) (h1 : -(2 ^ 62)<=lo) (h2:lo < 2 ^ 62) (h3 : -(2 ^ 62)<=hi) (h4:hi < 2 ^ 62)
  (q:R (Itr lo (hi - lo).toNat) H):wpAny (model X.prog X.w) X.A (pyIter (.ref s.heap.objs.size)) (PIE X pins σ tg R) E { s with heap:=s.heap.push { cls:=.type "range", data:=.fields #[.int lo t,.int hi u,.int 1 v] },toks:=tk }:=by
 refine wpAny_pyIter_range (IsRange.new ..) (small_one h1 h2 h3 h4) ?_
 have I1:Inv X pins σ H { s with heap:=s.heap.push { cls:=.type "range", data:=.fields #[.int lo t,.int hi u,.int 1 v] },toks:=tk }:=I.kept λb o e=>zH0 _ e
 refine⟨(s.heap.push { cls:=.type "range", data:=.fields #[.int lo t,.int hi u,.int 1 v] }).objs.size,[(s.heap.push { cls:=.type "range", data:=.fields #[.int lo t,.int hi u,.int 1 v] }).objs.size],_,_,H,rfl,
  I1.kept (t':=tk) λb o e=>zH0 _ e,oY _ lo (hi - lo).toNat,?_,λb hb=>?_,q⟩
 ·have e1:lo+((0:Nat):Int) * 1=lo:=by simp
  have e2:(((hi - lo).toNat:Nat):Int) - ((0:Nat):Int)=Builtin.Range.rangeSize lo hi 1:=by rw [rangeSize_one];split <;> omega
  show IsRangeIter _ _ (lo+((0:Nat):Int) * 1) ((((hi - lo).toNat:Nat):Int) - ((0:Nat):Int)) 1
  rw [e1,e2]
  exact Heap.get?_push_size _ rfl
 ·have e:b=(s.heap.push { cls:=.type "range", data:=.fields #[.int lo t,.int hi u,.int 1 v] }).objs.size:=by simpa using hb
  subst e
  exact I1.fpOk (Nat.le_refl _) (I1.hok.fresh (Nat.le_refl _))
noncomputable def C2 (ta:TA):TI:=λσ H R=>ta σ H λvs H1=>∃j:Int,vs=[.int j]/\-(2 ^ 62)<=j/\j < 2 ^ 62/\R (Itr 0 j.toNat) H1
noncomputable def C0 (ta:TA):TI:=λσ H R=>ta σ H λvs H1=>∃i j:Int,vs=[.int i,.int j]/\(-(2 ^ 62)<=i/\i < 2 ^ 62/\-(2 ^ 62)<=j/\j < 2 ^ 62)/\R (Itr i (j - i).toNat) H1
theorem dt {a:Expr}{ta:TA}{p pos:Pos} (hg:Gl X "range") (hm:X.mg "range" = none) (ha:PA X [a] ta) (hs:starEach [a] X.env=[(false,eval a X.env)]:=by rfl):PI X tg (.Call (.Name "range" p) [a] [] pos) (C2 ta):=by
 intro pins s σ H R I h
 refine Call_ (gt I hg hm boot_range (PyProof.Rows.callWith_type1 (thn (ha pos pins s σ H _ I h) λus s1 ⟨vs,H1,I1,r1,q1⟩=>?_) hs rfl))
 obtain⟨j,e,q1,q2,q⟩:=q1
 subst e
 cases r1 with
 | cons r rr=>
  cases rr
  obtain⟨t,rfl⟩:=r
  exact call_range_1 (nH I1 ‹1› ‹1› q1 q2 (by simpa using q))
theorem im {a b:Expr}{ta:TA}{p pos:Pos} (hg:Gl X "range") (hm:X.mg "range" = none) (ha:PA X [a,b] ta) (hs:starEach [a,b] X.env=[(false,eval a X.env),(false,eval b X.env)]:=by rfl) (hs2:starEach [b] X.env=[(false,eval b X.env)]:=by rfl) :
  PI X tg (.Call (.Name "range" p) [a,b] [] pos) (C0 ta):=by
 intro pins s σ H R I h
 refine Call_ (gt I hg hm boot_range (PyProof.Rows.callWith_type1 (thn (ha pos pins s σ H _ I h) λus s1 ⟨vs,H1,I1,r1,q1⟩=>?_) (by rw [hs,hs2]) (by rw [hs2];rfl)))
 obtain⟨i,j,e,⟨q1,q2,q3,q4⟩,q⟩:=q1
 subst e
 cases r1 with
 | cons r rr=>
  cases rr with
  | cons r' rr=>
   cases rr
   obtain⟨t,rfl⟩:=r
   obtain⟨t',rfl⟩:=r'
   exact call_range_2 (nH I1 q1 q2 q3 q4 q)
noncomputable def Cp (wi:TI) (g:TG) (tb:TS):TS:=λD σ H=>wi σ H λJ H1=>∃W:Nat->Nat->St->Hp->Prop,(∃m,W 0 m σ H1)/\∀i m σ H,W i m σ H->
 (J.stop i H/\D.nx σ H)\/(J.go i H/\∃N:St->Hp->Prop,(∀σ' H',N σ' H'->∃m',m' < m/\W (i+1) m' σ' H')/\∀x H',J.yld i H x H'->g x σ H' λσ2 H2=>tb { D with nx:=N,ct:=N,bk:=D.nx } σ2 H2)
noncomputable def jy (fp:List Addr) (h:Heap):List (Addr × Obj):=fp.filterMap λb=>(h.get? b).map λo=>(b,o)
theorem eN {fp:List Addr}{h:Heap}{b:Addr}{o:Obj} (hb:b∈fp) (e:h.get? b=some o):(b,o)∈jy fp h:=List.mem_filterMap.mpr ⟨b,hb,by rw [e];rfl⟩
theorem sy {fp:List Addr}{h:Heap}{p:Addr × Obj} (hp:p∈jy fp h):p.1∈fp/\h.get? p.1=some p.2:=by
 obtain⟨b,hb,e⟩:=List.mem_filterMap.mp hp
 cases q:h.get? b with
 | none=>rw [q]at e;cases e
 | some o=>
  rw [q]at e
  have e':(b,o)=p:=Option.some.inj e
  subst e'
  exact⟨hb,q⟩
theorem Inv.pinned {pins:List (Addr × Obj)}{σ:St}{H:Hp}{s:Shared}{fp:List Addr} (I:Inv X pins σ H s) (hf:∀b∈fp,iA X pins H b) (ho:∀b∈fp,∃o,s.heap.get? b=some o/\∀v,o.data≠.cell v):Inv X (pins++jy fp s.heap) σ H s:=
 I.pins_of λp hp=>(List.mem_append.mp hp).elim (λz=>I.pin p (List.mem_append_right _ z)) λz=>by
  obtain⟨hb,e⟩:=sy z
  obtain⟨f0,f1,f2,_⟩:=hf p.1 hb
  obtain⟨o,e',d⟩:=ho p.1 hb
  rw [e]at e';cases e'
  exact⟨e,f0,f1,f2,d⟩
theorem Inv.unpinned {pins pl:List (Addr × Obj)}{σ:St}{H:Hp}{s:Shared} (I:Inv X (pins++pl) σ H s):Inv X pins σ H s:=I.pins_of λp hp=>I.pin p (List.mem_append_right _ (List.mem_append_left _ hp))
theorem eJ {iter:Expr}{body:List Stmt}{wi:TI}{g:TG}{tb:TS}{pos:Pos} (hp:PassesOwn (model X.prog X.w) X.A X.env X.xe) (hc:X.calm=true) (hi:PI X tg iter wi) (hg:PG X tg g) (hb:PSs X body tb)
  (hs:∀x,foldedSetIterable iter X.env x=pure x:=by intro _;rfl):PS X (.For tg iter body [] pos) (Cp wi g tb):=by
 intro pins s σ H D I h
 refine wpAny_For (thn (hi pins s σ H _ I h) λv s1 h1=>thn h1 λitv s2 h2=>?_) hs
 obtain⟨it,fp,tn,J,H2,e,I2,T,st2,f2,W,⟨m0,w0⟩,turn⟩:=h2
 subst e
 have stat:∀{H':Hp},(∀b∈fp,H' b=none)->∀b∈fp,iA X pins H' b:=λhn b hb=>⟨hn b hb,(f2 b hb).2⟩
 refine codeAny_forLoop_any (λn s'=>∃i σ' H',Inv X pins σ' H' s'/\tn i s'.heap/\(∀b∈fp,H' b=none)/\W i n σ' H') ?_ m0 ⟨0,σ,H2,I2,st2,λb hb=>(f2 b hb).1,w0⟩
 rintro n s3 ⟨i,σ3,H3,I3,st3,fr3,w3⟩
 rcases turn i n σ3 H3 w3 with⟨stop,qn⟩ | ⟨go,N,hN,step⟩
 ·refine wpAny_passesOwn hp (thn (T.done X rfl rfl rfl hc i pins s3 σ3 H3 X.xe I3 (stat fr3) st3 stop) λr s4 ⟨hr,I4⟩=>?_)
  subst hr
  exact wpAny_execs_nil ⟨σ3,H3,I4,qn⟩
 ·refine wpAny_passesOwn hp (thn (T.item X rfl rfl rfl hc i pins s3 σ3 H3 X.xe I3 (stat fr3) st3 go) λr s4 ⟨u,hr,h4⟩=>?_)
  subst hr
  refine wpAny_passesOwn hp (thn h4 λ_ s5 ⟨x,H5,I5,r5,y5,st5,fr5⟩=>?_)
  have I5':=I5.pinned (stat fr5) (T.obj _ _ st5)
  refine wpAny_passesOwn hp (thn (hg _ s5 σ3 H5 x u _ I5' r5 (step x H5 y5)) λ_ s6 ⟨σ6,H6,I6,q6⟩=>?_)
  refine wpAny_passesOwn hp (thn (hb _ s6 σ6 H6 _ I6 q6) λf s7 q7=>?_)
  have again:∀{σ7:St}{H7:Hp},Inv X (pins++jy fp s5.heap) σ7 H7 s7->N σ7 H7->∃m,m < n/\∃i σ' H',Inv X pins σ' H' s7/\tn i s7.heap/\(∀b∈fp,H' b=none)/\W i m σ' H':=λ{σ7 H7} I7 n7=>by
   obtain⟨m',hm,w7⟩:=hN σ7 H7 n7
   refine⟨m',hm,i+1,σ7,H7,I7.unpinned,T.keep _ _ _ st5 λb hb o e=>(I7.pin (b,o) (List.mem_append_right _ (List.mem_append_right _ (eN hb e)))).1,λb hb=>?_,w7⟩
   obtain⟨o,e,d⟩:=T.obj _ _ st5 b hb
   exact(I7.pin (b,o) (List.mem_append_right _ (List.mem_append_right _ (eN hb e)))).2.1
  cases f with
  | next=>obtain⟨σ7,H7,I7,n7⟩:=q7;exact again I7 n7
  | cont=>obtain⟨σ7,H7,I7,n7⟩:=q7;exact again I7 n7
  | brk=>obtain⟨σ7,H7,I7,q7⟩:=q7;exact⟨σ7,H7,I7.unpinned,q7⟩
  | ret v=>obtain⟨x7,σ7,H7,I7,r7,q7⟩:=q7;exact⟨x7,σ7,H7,I7.unpinned,r7,q7⟩
end
theorem gR {K:W.Frag}{a:Addr}{xs:List V}{g:TG}{tb:TS}{D:Ends}{σ:St}{H:Hp} (Pv:Nat->St->Hp->Prop) (h0:Pv 0 σ H) (hl:∀i σ H,i<=xs.length->Pv i σ H->SqL K H a xs)
  (hs:∀i x σ H,xs[i]?=some x->Pv i σ H->g x σ H λσ2 H2=>tb { D with nx:=Pv (i+1),ct:=Pv (i+1),bk:=D.nx } σ2 H2) (hd:∀σ H,Pv xs.length σ H->D.nx σ H) :
  ∃W:Nat->Nat->St->Hp->Prop,(∃m,W 0 m σ H)/\∀i m σ H,W i m σ H->
   ((Itl K a).stop i H/\D.nx σ H)\/((Itl K a).go i H/\∃N:St->Hp->Prop,(∀σ' H',N σ' H'->∃m',m' < m/\W (i+1) m' σ' H')/\∀x H',(Itl K a).yld i H x H'->g x σ H' λσ2 H2=>tb { D with nx:=N,ct:=N,bk:=D.nx } σ2 H2):=by
 refine⟨λi m σ H=>m=xs.length - i/\i<=xs.length/\Pv i σ H,⟨xs.length,by simp,Nat.zero_le _,h0⟩,?_⟩
 rintro i m σ H ⟨rfl,hi,p⟩
 have q:=hl i σ H hi p
 by_cases hlt:i < xs.length
 ·refine .inr ⟨⟨xs,xs[i],q,by simp [hlt]⟩,Pv (i+1),λσ' H' p'=>⟨xs.length - (i+1),by omega,rfl,hlt,p'⟩,λx H' y=>?_⟩
  obtain⟨e,y⟩:=y
  subst e
  exact hs i x σ _ (y xs q) p
 ·have e:i=xs.length:=by omega
  subst e
  exact .inl ⟨⟨xs,q,Nat.le_refl _⟩,hd σ H p⟩
theorem eg {lo:Int}{n:Nat}{g:TG}{tb:TS}{D:Ends}{σ:St}{H:Hp} (Pv:Nat->St->Hp->Prop) (h0:Pv 0 σ H)
  (hs:∀i σ H,i < n->Pv i σ H->g (.int (lo+i)) σ H λσ2 H2=>tb { D with nx:=Pv (i+1),ct:=Pv (i+1),bk:=D.nx } σ2 H2) (hd:∀σ H,Pv n σ H->D.nx σ H) :
  ∃W:Nat->Nat->St->Hp->Prop,(∃m,W 0 m σ H)/\∀i m σ H,W i m σ H->
   ((Itr lo n).stop i H/\D.nx σ H)\/((Itr lo n).go i H/\∃N:St->Hp->Prop,(∀σ' H',N σ' H'->∃m',m' < m/\W (i+1) m' σ' H')/\∀x H',(Itr lo n).yld i H x H'->g x σ H' λσ2 H2=>tb { D with nx:=N,ct:=N,bk:=D.nx } σ2 H2):=by
 refine⟨λi m σ H=>m=n - i/\i<=n/\Pv i σ H,⟨n,by simp,Nat.zero_le _,h0⟩,?_⟩
 rintro i m σ H ⟨rfl,hi,p⟩
 by_cases hlt:i < n
 ·refine .inr ⟨hlt,Pv (i+1),λσ' H' p'=>⟨n - (i+1),by omega,rfl,hlt,p'⟩,λx H' y=>?_⟩
  obtain⟨e,y⟩:=y
  subst e y
  exact hs i σ _ hlt p
 ·have e:i=n:=by omega
  subst e
  exact .inl ⟨Nat.le_refl _,hd σ H p⟩
noncomputable abbrev R2:=V->V->Hp->VK->Prop
def OpR (X:Cx) (f:Value->Value->Sem Value) (r:R2):Prop:=
 ∀(pins:List (Addr × Obj)) (s:Shared) (σ:St) (H:Hp) (x y:V) (v u:Value) (Q:VK),Inv X pins σ H s->aV x v->aV y u->r x y H Q->
  wpAny (model X.prog X.w) X.A (f v u) (EP X pins σ Q) X.xe s
def UnR (X:Cx) (f:Value->Sem Value) (r:V->Hp->VK->Prop):Prop:=
 ∀(pins:List (Addr × Obj)) (s:Shared) (σ:St) (H:Hp) (x:V) (v:Value) (Q:VK),Inv X pins σ H s->aV x v->r x H Q->
  wpAny (model X.prog X.w) X.A (f v) (EP X pins σ Q) X.xe s
def cD (X:Cx) (f:Value) (r:List V->Hp->VK->Prop):Prop:=
 ∀(pins:List (Addr × Obj)) (s:Shared) (σ:St) (H:Hp) (xs:List V) (us:List Value) (Q:VK),Inv X pins σ H s->aM xs us->r xs H Q->
  wpAny (model X.prog X.w) X.A (call f us) (EP X pins σ Q) X.xe s
noncomputable def tOp (r:R2) (ta tb:TE):TE:=λσ H Q=>ta σ H λx H1=>tb σ H1 λy H2=>r x y H2 Q
noncomputable def tUn (r:V->Hp->VK->Prop) (ta:TE):TE:=λσ H Q=>ta σ H λx H1=>r x H1 Q
inductive rI (C:Int->Int->Prop) (g:Int->Int->V) (x:V) (y:V) (H:Hp) (Q:VK):Prop
 | mk (i j) (h1:x=.int i) (h2:y=.int j) (h3:C i j) (h4:Q (g i j) H):rI C g x y H Q
inductive rI0 (g:Int->Int->V) (x:V) (y:V) (H:Hp) (Q:VK):Prop
 | mk (i j) (h1:x=.int i) (h2:y=.int j) (h3:Q (g i j) H):rI0 g x y H Q
noncomputable def rU (g:Int->V):V->Hp->VK->Prop:=λx H Q=>∃i,x=.int i/\Q (g i) H
section
variable {X:Cx}{a b c:Expr}{ta tb tc:TE}{pos:Pos}
theorem Bg (ha:PE X a ta) (hb:PE X b tb){pins:List (Addr × Obj)}{s:Shared}{σ:St}{H:Hp}{R:V->V->Hp->Prop} (I:Inv X pins σ H s)
  (h:ta σ H λx H1=>tb σ H1 λy H2=>R x y H2){Q:Value->Shared->Prop}{f:Value->Value->Sem Value}
  (hf:∀v u s2 x y H2,Inv X pins σ H2 s2->aV x v->aV y u->R x y H2->wpAny (model X.prog X.w) X.A (f v u) Q X.xe s2) :
  wpAny (model X.prog X.w) X.A (eval a X.env) (λv s₁=>wpAny (model X.prog X.w) X.A (eval b X.env) (λu s₂=>wpAny (model X.prog X.w) X.A (f v u) Q X.xe s₂) X.xe s₁) X.xe s:=by
 refine thn (ha pins s σ H _ I h) λv s1 ⟨x,H1,I1,r1,q1⟩=>?_
 refine thn (hb pins s1 σ H1 _ I1 q1) λu s2 ⟨y,H2,I2,r2,q2⟩=>?_
 exact hf v u s2 x y H2 I2 r1 r2 q2
theorem b8 {op:Operator}{r:R2} (ho:OpR X (binaryOp op) r) (ha:PE X a ta) (hb:PE X b tb):PE X (.BinOp a op b pos) (tOp r ta tb):=by
 intro pins s σ H Q I h
 exact wpAny_BinOp (Bg ha hb I h λv u s2 x y H2 I2 rx ry q=>ho pins s2 σ H2 x y v u Q I2 rx ry q)
theorem vd {op:UnaryOp}{r:V->Hp->VK->Prop} (ho:UnR X (unaryOp op) r) (ha:PE X a ta):PE X (.UnaryOp op a pos) (tUn r ta):=by
 intro pins s σ H Q I h
 exact UnaryOp_ (thn (ha pins s σ H _ I h) λv s1 ⟨x,H1,I1,r1,q1⟩=>ho pins s1 σ H1 x v Q I1 r1 q1)
theorem opI {f:Value->Value->Sem Value}{C:Int->Int->Prop}{g:Int->Int->Int}
  (rule:∀(i j:Int) (t u:Tok) (s:Shared) (Q:Value->Shared->Prop) (E:Value->Shared->Prop),C i j->Q (.int (g i j) s.toks) { s with toks:=s.toks+1 }->wpAny (model X.prog X.w) X.A (f (.int i t) (.int j u)) Q E s) :
  OpR X f (rI C λi j=>.int (g i j)):=by
 intro pins s σ H x y v u Q I rx ry h
 obtain⟨i,j,rfl,rfl,hc,q⟩:=h
 obtain⟨t,rfl⟩:=rx
 obtain⟨t',rfl⟩:=ry
 exact rule i j t t' s _ _ hc ⟨.int (g i j),H,I.tok _,⟨_,rfl⟩,q⟩
theorem BR {f:Value->Value->Sem Value}{g:Int->Int->Int}
  (rule:∀(i j:Int) (t u:Tok) (s:Shared) (Q:Value->Shared->Prop) (E:Value->Shared->Prop),Q (.int (g i j) s.toks) { s with toks:=s.toks+1 }->wpAny (model X.prog X.w) X.A (f (.int i t) (.int j u)) Q E s) :
  OpR X f (rI0 λi j=>.int (g i j)):=by
 intro pins s σ H x y v u Q I rx ry h
 obtain⟨i,j,rfl,rfl,q⟩:=h
 obtain⟨t,rfl⟩:=rx
 obtain⟨t',rfl⟩:=ry
 exact rule i j t t' s _ _ ⟨.int (g i j),H,I.tok _,⟨_,rfl⟩,q⟩
theorem xM {f:Value->Value->Sem Value}{g:Int->Int->Bool}
  (rule:∀(i j:Int) (t u:Tok) (s:Shared) (Q:Value->Shared->Prop) (E:Value->Shared->Prop),Q (.bool (g i j)) s->wpAny (model X.prog X.w) X.A (f (.int i t) (.int j u)) Q E s) :
  OpR X f (rI0 λi j=>.bl (g i j)):=by
 intro pins s σ H x y v u Q I rx ry h
 obtain⟨i,j,rfl,rfl,q⟩:=h
 obtain⟨t,rfl⟩:=rx
 obtain⟨t',rfl⟩:=ry
 exact rule i j t t' s _ _ ⟨.bl (g i j),H,I,rfl,q⟩
def D7 (i j:Int):Prop:=0<=j/\j<=1000000/\i.natAbs < 2 ^ 64
def Bj (i j:Int):Prop:=(-(2 ^ 64) < i/\i < 2 ^ 64)\/(-(2 ^ 64) < j/\j < 2 ^ 64)
theorem Bj.ok {i j:Int} (h:Bj i j):IntMulOk i j:=by
 rcases h with⟨h1,h2⟩ | ⟨h1,h2⟩
 ·exact .of_left (intBits_le_64 h1 h2)
 ·exact .of_right (intBits_le_64 h1 h2)
theorem bV:OpR X (binaryOp .Add) (rI0 λi j=>.int (i+j)):=BR λ_ _ _ _ _ _ _ q=>add_int q
theorem mo:OpR X (binaryOp .Sub) (rI0 λi j=>.int (i - j)):=BR λ_ _ _ _ _ _ _ q=>sub_int q
theorem eL:OpR X (binaryOp .Mult) (rI Bj λi j=>.int (i * j)):=opI λ_ _ _ _ _ _ _ hc q=>mul_int q hc.ok
theorem gk:OpR X (binaryOp .Mod) (rI (λ_ j=>0 < j) λi j=>.int (i % j)):=opI λi j _ _ _ _ _ hc q=>by
 have h1:(0:Int) < j:=hc
 exact mod_int' ‹1› (by rw [Int.fmod_eq_emod_of_nonneg i ‹1›];exact q)
theorem pU:OpR X (binaryOp .Pow) (rI D7 λi j=>.int (i ^ j.toNat)):=opI λ_ _ _ _ _ _ _ hc q=>pow_int_small hc.1 hc.2.1 hc.2.2 q
theorem unI {f:Value->Sem Value}{g:Int->Int}
  (rule:∀(i:Int) (t:Tok) (s:Shared) (Q:Value->Shared->Prop) (E:Value->Shared->Prop),Q (.int (g i) s.toks) { s with toks:=s.toks+1 }->wpAny (model X.prog X.w) X.A (f (.int i t)) Q E s) :
  UnR X f (rU λi=>.int (g i)):=by
 intro pins s σ H x v Q I rx h
 obtain⟨i,rfl,q⟩:=h
 obtain⟨t,rfl⟩:=rx
 exact rule i t s _ _ ⟨.int (g i),H,I.tok _,⟨_,rfl⟩,q⟩
theorem oW:UnR X (unaryOp .USub) (rU λi=>.int (-i)):=unI λ_ _ _ _ _ q=>neg_int q
end
noncomputable def BE:V->V->Bool
 | .non,.non=>true | .non,.int _=>true | .int _,.non=>true | .non,.bl _=>true | .bl _,.non=>true | .non,.str _=>true | .str _,.non=>true
 | .int _,.int _=>true | .bl _,.bl _=>true | .str _,.str _=>true | .byt _,.byt _=>true
 | .int _,.str _=>true | .str _,.int _=>true | .bl _,.str _=>true | .str _,.bl _=>true
 | _,_=>false
noncomputable def rEq:R2:=λx y H Q=>BE x y=true/\Q (.bl (decide (x=y))) H
noncomputable def rNe:R2:=λx y H Q=>BE x y=true/\Q (.bl (!decide (x=y))) H
theorem rp {i j:Int}:decide (V.int i=V.int j)=(i == j):=by
 rw [Bool.eq_iff_iff]
 simp
theorem ww {i j:Bool}:decide (V.bl i=V.bl j)=(i == j):=by
 rw [Bool.eq_iff_iff]
 simp
theorem rl {i j:Str}:decide (V.str i=V.str j)=(i == j):=by
 rw [Bool.eq_iff_iff]
 simp
theorem rA {i j:Array UInt8}:decide (V.byt i=V.byt j)=(i.toList == j.toList):=by
 rw [Bool.eq_iff_iff]
 cases i
 cases j
 simp
section
variable {X:Cx}{a b c:Expr}{ta tb tc:TE}{pos:Pos}
theorem bi {pins:List (Addr × Obj)}{σ:St}{H:Hp}{s:Shared}{Q:VK}{k k':Bool} (I:Inv X pins σ H s) (q:Q (.bl k) H) (e:k=k'):EP X pins σ Q (.bool k') s:=by
 subst e
 exact⟨.bl k,H,I,rfl,q⟩
theorem bK:OpR X (compareOp .Eq) rEq:=by
 intro pins s σ H x y v u Q I rx ry h
 obtain⟨hs,q⟩:=h
 cases x with
 | non=>
  cases rx
  cases y with
  | non=>cases ry;exact PySem.EqNone.eq_none_none (bi I q (by simp))
  | bl j=>cases ry;exact PySem.EqNone.eq_none_bool (bi I q (by simp))
  | int j=>obtain⟨t',rfl⟩:=ry;exact PySem.EqNone.eq_none_int (bi I q (by simp))
  | str j=>obtain⟨t',rfl⟩:=ry;exact PySem.EqNone.eq_none_str (bi I q (by simp))
  | _=>exact absurd (show false=true from hs) Bool.false_ne_true
 | bl i=>
  cases rx
  cases y with
  | non=>cases ry;exact PySem.EqNone.eq_bool_none (bi I q (by simp))
  | bl j=>cases ry;exact eq_bool (bi I q ww)
  | str j=>obtain⟨t',rfl⟩:=ry;exact PySem.EqMixed.eq_bool_str (bi I q (by simp))
  | _=>exact absurd (show false=true from hs) Bool.false_ne_true
 | int i=>
  obtain⟨t,rfl⟩:=rx
  cases y with
  | non=>cases ry;exact PySem.EqNone.eq_int_none (bi I q (by simp))
  | int j=>obtain⟨t',rfl⟩:=ry;exact eq_int (bi I q rp)
  | str j=>obtain⟨t',rfl⟩:=ry;exact PySem.EqMixed.eq_int_str (bi I q (by simp))
  | _=>exact absurd (show false=true from hs) Bool.false_ne_true
 | str i=>
  obtain⟨t,rfl⟩:=rx
  cases y with
  | non=>cases ry;exact PySem.EqNone.eq_str_none (bi I q (by simp))
  | bl j=>cases ry;exact PySem.EqMixed.eq_str_bool (bi I q (by simp))
  | int j=>obtain⟨t',rfl⟩:=ry;exact PySem.EqMixed.eq_str_int (bi I q (by simp))
  | str j=>obtain⟨t',rfl⟩:=ry;exact eq_str (bi I q rl)
  | _=>exact absurd (show false=true from hs) Bool.false_ne_true
 | byt i=>
  obtain⟨t,rfl⟩:=rx
  cases y with
  | byt j=>obtain⟨t',rfl⟩:=ry;exact PySem.W.eq_bytes (bi I q rA)
  | _=>exact absurd (show false=true from hs) Bool.false_ne_true
 | _=>cases y <;> exact absurd (show false=true from hs) Bool.false_ne_true
theorem BO:OpR X (compareOp .NotEq) rNe:=by
 intro pins s σ H x y v u Q I rx ry h
 obtain⟨hs,q⟩:=h
 cases x with
 | non=>
  cases rx
  cases y with
  | non=>cases ry;exact PySem.EqNone.ne_none_none (bi I q (by simp))
  | bl j=>cases ry;exact PySem.EqNone.ne_none_bool (bi I q (by simp))
  | int j=>obtain⟨t',rfl⟩:=ry;exact PySem.EqNone.ne_none_int (bi I q (by simp))
  | str j=>obtain⟨t',rfl⟩:=ry;exact PySem.EqNone.ne_none_str (bi I q (by simp))
  | _=>exact absurd (show false=true from hs) Bool.false_ne_true
 | bl i=>
  cases rx
  cases y with
  | non=>cases ry;exact PySem.EqNone.ne_bool_none (bi I q (by simp))
  | bl j=>cases ry;exact ne_bool (bi I q (congrArg not ww))
  | str j=>obtain⟨t',rfl⟩:=ry;exact PySem.EqMixed.ne_bool_str (bi I q (by simp))
  | _=>exact absurd (show false=true from hs) Bool.false_ne_true
 | int i=>
  obtain⟨t,rfl⟩:=rx
  cases y with
  | non=>cases ry;exact PySem.EqNone.ne_int_none (bi I q (by simp))
  | int j=>obtain⟨t',rfl⟩:=ry;exact ne_int (bi I q (congrArg not rp))
  | str j=>obtain⟨t',rfl⟩:=ry;exact PySem.EqMixed.ne_int_str (bi I q (by simp))
  | _=>exact absurd (show false=true from hs) Bool.false_ne_true
 | str i=>
  obtain⟨t,rfl⟩:=rx
  cases y with
  | non=>cases ry;exact PySem.EqNone.ne_str_none (bi I q (by simp))
  | bl j=>cases ry;exact PySem.EqMixed.ne_str_bool (bi I q (by simp))
  | int j=>obtain⟨t',rfl⟩:=ry;exact PySem.EqMixed.ne_str_int (bi I q (by simp))
  | str j=>obtain⟨t',rfl⟩:=ry;exact ne_str (bi I q (congrArg not rl))
  | _=>exact absurd (show false=true from hs) Bool.false_ne_true
 | byt i=>
  obtain⟨t,rfl⟩:=rx
  cases y with
  | byt j=>obtain⟨t',rfl⟩:=ry;exact PySem.W.ne_bytes (bi I q (congrArg not rA))
  | _=>exact absurd (show false=true from hs) Bool.false_ne_true
 | _=>cases y <;> exact absurd (show false=true from hs) Bool.false_ne_true
theorem nN:OpR X (compareOp .Lt) (rI0 λi j=>.bl (decide (i < j))):=xM λ_ _ _ _ _ _ _ q=>lt_int q
theorem kX:OpR X (compareOp .LtE) (rI0 λi j=>.bl (decide (i<=j))):=xM λ_ _ _ _ _ _ _ q=>le_int q
theorem BP:OpR X (compareOp .Gt) (rI0 λi j=>.bl (decide (j < i))):=xM λ_ _ _ _ _ _ _ q=>gt_int q
theorem BQ:OpR X (compareOp .GtE) (rI0 λi j=>.bl (decide (j<=i))):=xM λ_ _ _ _ _ _ _ q=>ge_int q
theorem sf:OpR X (compareOp .In) (λx y H Q=>∃i j,x=.str i/\y=.str j/\Q (.bl (!(Builtin.Str.occurrences j i 0 j.length 1).isEmpty)) H):=by
 intro pins s σ H x y v u Q I rx ry h
 obtain⟨i,j,rfl,rfl,q⟩:=h
 obtain⟨t,rfl⟩:=rx
 obtain⟨t',rfl⟩:=ry
 exact in_str (bi I q rfl)
theorem aS (b:Expr){op:CmpOp} (h:op≠.In:=by decide) (h2:op≠.NotIn:=by decide):behindInMarks op b=false:=by
 have e1:(op == CmpOp.In)=false:=by cases op <;> first | rfl | exact absurd rfl h
 have e2:(op == CmpOp.NotIn)=false:=by cases op <;> first | rfl | exact absurd rfl h2
 cases b <;> simp [behindInMarks,e1,e2]
theorem ck {op:CmpOp}{r:R2} (ho:OpR X (compareOp op) r) (ha:PE X a ta) (hb:PE X b tb) (hm:behindInMarks op b=false):PE X (.Compare a [op] [b] pos) (tOp r ta tb):=by
 intro pins s σ H Q I h
 exact wpAny_Compare1 (Bg ha hb I h λv u s2 x y H2 I2 rx ry q=>ho pins s2 σ H2 x y v u Q I2 rx ry q) hm
inductive ttR (x:V) (H':Hp) (Q:Bool->Hp->Prop):Prop
 | mk (k) (h1:x=.bl k) (h2:Q k H'):ttR x H' Q
noncomputable def yG (t:TE):TT:=λσ H Q=>t σ H λx H'=>ttR x H' Q
theorem aK {op:CmpOp}{r:R2} (ho:OpR X (compareOp op) r) (ha:PE X a ta) (hb:PE X b tb) (hm:behindInMarks op b=false):PT X (.Compare a [op] [b] pos) (yG (tOp r ta tb)):=by
 intro pins s σ H Q I h
 refine wpAny_isTrue_Compare1 (thn (ha pins s σ H _ I h) λv s1 ⟨x,H1,I1,r1,q1⟩=>thn (hb pins s1 σ H1 _ I1 q1) λu s2 ⟨y,H2,I2,r2,q2⟩=>
  thn (ho pins s2 σ H2 x y v u _ I2 r1 r2 q2) λc s3 ⟨z,H3,I3,r3,k,e,q3⟩=>?_) hm
 subst e
 cases r3
 exact wpAny_truthy_bool ⟨H3,I3,q3⟩
noncomputable def tP (r r':R2) (ta tb tc:TE):TE:=λσ H Q=>ta σ H λx H1=>tb σ H1 λy H2=>r x y H2 λz H3=>∃k,z=.bl k/\
 (if k=true then tc σ H3 λw' H4=>r' y w' H4 Q else Q (.bl false) H3)
theorem vh {op op':CmpOp}{r r':R2} (ho:OpR X (compareOp op) r) (ho':OpR X (compareOp op') r') (ha:PE X a ta) (hb:PE X b tb) (hc:PE X c tc)
  (hm:lastMarks [op,op'] [b,c]=false:=by with_unfolding_all rfl):PE X (.Compare a [op,op'] [b,c] pos) (tP r r' ta tb tc):=by
 intro pins s σ H Q I h
 refine Compare_chain (thn (ha pins s σ H _ I h) λv s1 ⟨x,H1,I1,r1,q1⟩=>chain_link (thn (hb pins s1 σ H1 _ I1 q1) λu s2 ⟨y,H2,I2,r2,q2⟩=>
  thn (ho pins s2 σ H2 x y v u _ I2 r1 r2 q2) λd s3 ⟨z,H3,I3,r3,k,e,q3⟩=>?_)) hm
 subst e
 cases r3
 refine wpAny_truthy_bool ?_
 cases k with
 | false=>exact ite_ff ⟨.bl false,H3,I3,rfl,q3⟩
 | true=>exact ite_tt (chain_last (thn (hc pins s3 σ H3 _ I3 q3) λw' s4 ⟨z',H4,I4,r4,q4⟩=>ho' pins s4 σ H4 y z' u w' Q I4 r2 r4 q4))
theorem nI {op op':CmpOp}{r r':R2} (ho:OpR X (compareOp op) r) (ho':OpR X (compareOp op') r') (ha:PE X a ta) (hb:PE X b tb) (hc:PE X c tc)
  (hm:lastMarks [op,op'] [b,c]=false:=by with_unfolding_all rfl):PT X (.Compare a [op,op'] [b,c] pos) (yG (tP r r' ta tb tc)):=by
 intro pins s σ H Q I h
 refine isTrue_chain (thn (ha pins s σ H _ I h) λv s1 ⟨x,H1,I1,r1,q1⟩=>test_link (thn (hb pins s1 σ H1 _ I1 q1) λu s2 ⟨y,H2,I2,r2,q2⟩=>
  thn (ho pins s2 σ H2 x y v u _ I2 r1 r2 q2) λd s3 ⟨z,H3,I3,r3,k,e,q3⟩=>?_)) hm
 subst e
 cases r3
 refine wpAny_truthy_bool ?_
 cases k with
 | false=>
  obtain⟨k',e',q'⟩:=q3
  cases e'
  exact ite_ff ⟨H3,I3,q'⟩
 | true=>
  refine ite_tt (test_last (thn (hc pins s3 σ H3 _ I3 q3) λw' s4 ⟨z',H4,I4,r4,q4⟩=>thn (ho' pins s4 σ H4 y z' u w' _ I4 r2 r4 q4) λd' s5 ⟨z2,H5,I5,r5,k2,e2,q5⟩=>?_))
  subst e2
  cases r5
  exact wpAny_truthy_bool ⟨H5,I5,q5⟩
theorem ip:(sizeLine:Nat) < 2 ^ 63:=by rw [sizeLine_eq];decide
theorem bY {x:V}{us:List Value} (r:aM [x] us):∃u,us=[u]/\aV x u:=by
 cases r with
 | cons r1 r2=>cases r2;exact⟨_,rfl,r1⟩
theorem tD {x y:V}{us:List Value} (r:aM [x,y] us):∃u w',us=[u,w']/\aV x u/\aV y w':=by
 cases r with
 | cons r1 r2=>
  cases r2 with
  | cons r3 r4=>cases r4;exact⟨_,_,rfl,r1,r3⟩
theorem sU (hc:X.calm=true):cD X (.builtin "max") (λxs H Q=>∃i j,xs=[.int i,.int j]/\Q (.int (if j > i then j else i)) H):=by
 intro pins s σ H xs us Q I r h
 obtain⟨i,j,rfl,q⟩:=h
 obtain⟨u,w',rfl,⟨t,rfl⟩,⟨t',rfl⟩⟩:=tD r
 refine max_two_ints (I.ok.hd hc) λh' tk k=>⟨_,H,I.kept k,?_,q⟩
 by_cases hj:j > i
 ·rw [if_pos hj,if_pos hj];exact⟨_,rfl⟩
 ·rw [if_neg hj,if_neg hj];exact⟨_,rfl⟩
theorem iy (hc:X.calm=true):cD X (.builtin "min") (λxs H Q=>∃i j,xs=[.int i,.int j]/\Q (.int (if j < i then j else i)) H):=by
 intro pins s σ H xs us Q I r h
 obtain⟨i,j,rfl,q⟩:=h
 obtain⟨u,w',rfl,⟨t,rfl⟩,⟨t',rfl⟩⟩:=tD r
 refine min_two_ints (I.ok.hd hc) λh' tk k=>⟨_,H,I.kept k,?_,q⟩
 by_cases hj:j < i
 ·rw [if_pos hj,if_pos hj];exact⟨_,rfl⟩
 ·rw [if_neg hj,if_neg hj];exact⟨_,rfl⟩
theorem lB:cD X (.type "int") (λxs H Q=>(∃i,xs=[.int i]/\Q (.int i) H)\/∃k,xs=[.bl k]/\Q (.int (if k then 1 else 0)) H):=by
 intro pins s σ H xs us Q I r h
 rcases h with⟨i,rfl,q⟩ | ⟨k,rfl,q⟩
 ·obtain⟨u,rfl,t,rfl⟩:=bY r
  exact call_int_int ⟨.int i,H,I,⟨_,rfl⟩,q⟩
 ·obtain⟨u,rfl,r1⟩:=bY r
  cases r1
  exact call_int_bool ⟨.int (if k then 1 else 0),H,I.tok _,⟨_,rfl⟩,q⟩
theorem bg:cD X (.type "str") (λxs H Q=>∃i,xs=[.int i]/\i.natAbs.log2 < 1920/\Q (.str (toString i)) H):=by
 intro pins s σ H xs us Q I r h
 obtain⟨i,rfl,hz,q⟩:=h
 obtain⟨u,rfl,t,rfl⟩:=bY r
 exact PySem.P.str_of_int hz ⟨.str _,H,I.tok _,⟨_,rfl⟩,q⟩
end
structure ObjM (h:Heap) (x dx C:Addr) (mA:Str->Option Value):Prop where
 obj:h.get? x=some (PySem.W.instObj C dx)
 ns:h.Ns1 dx mA
 ne:dx≠x
theorem sB {h:Heap}{dx:Addr}{mA:Str->Option Value} (n:h.Ns1 dx mA):∃od,h.get? dx=some od/\∀name,PySem.W.lookIn name od=some (mA name):=by
 obtain⟨o,es,ep,ho,hd,hk,_,hm⟩:=n
 refine⟨o,ho,λname=>?_⟩
 have e:=hm name
 unfold nsFind findBy at e
 rw [<- Array.find?_toList]at e
 unfold PySem.W.lookIn
 rw [hd]
 dsimp only
 split
 ·rename_i y q
  rw [q]at e
  exact congrArg some e
 ·rename_i q
  rw [q]at e
  have a:es.toList.any (·.refKey)=false:=by
   rw [List.any_eq_false]
   intro y hy
   obtain⟨z,t,hkey⟩:=hk y (Array.mem_toList_iff.mp hy)
   simp [DictEntry.refKey,hkey]
  have a':¬es.toList.any (·.refKey)=true:=by rw [a];exact Bool.false_ne_true
  rw [if_neg a']
  exact congrArg some e
theorem ObjM.look {h:Heap}{x dx C:Addr}{mA:Str->Option Value} (I:ObjM h x dx C mA):∃od,PySem.W.InstAt h x (PySem.W.instObj C dx) C (some od)/\∀name,PySem.W.lookIn name od=some (mA name):=
 let ⟨od,ho,hl⟩:=sB I.ns
 ⟨od,⟨I.obj,rfl,rfl,ho⟩,hl⟩
section
variable {prog:Program}{w:World}{A:Around}{E:Value->Shared->Prop}{s:Shared}{K:W.Frag}{x dx C f:Addr}{mA:Str->Option Value}{name:Str}{v:Value}
theorem ym {expr:Bool}{Q:Value->Shared->Prop} (X:K.In s.heap) (I:ObjM s.heap x dx C mA) (hg:PySem.W.plainGet K C name=true) (hh:PySem.W.hasDictIn K C=true)
  (ha:PySem.W.findIn K (.ref C) name=some none) (hv:mA name=some v) (hv':PySem.W.handedIn v=true) (h:Q v { s with toks:=s.toks+1 }) :
  wpAny (model prog w) A (getAttr (.ref x) name expr) Q E s:=by
 obtain⟨od,J,hl⟩:=I.look
 exact PySem.W.get_value X J (PySem.W.plainGet_of hg).1 (PySem.W.findObj_own hh ha rfl (by rw [hl,hv])) hv' h
theorem wg {pl:Sem Bool}{Q:Value × List Value->Shared->Prop} (X:K.In s.heap) (I:ObjM s.heap x dx C mA) (hg:PySem.W.plainGet K C name=true)
  (hf:PySem.W.findIn K (.ref C) name=some (some (.ref f))) (ht:‹[K,f]›) (hv:mA name=none) (h:Q (.ref f,[.ref x]) s) :
  wpAny (model prog w) A (getMethod (.ref x) name pl) Q E s:=by
 obtain⟨od,J,hl⟩:=I.look
 exact PySem.W.method_fn X J (PySem.W.plainGet_of hg).1 (PySem.W.plainGet_of hg).2 hf (beq_iff_eq.mp ht) (by show (PySem.W.lookIn name od).map (·.isSome)=some false;rw [hl,hv];rfl) h
theorem xl {ns:List Str}{Q:Unit->Shared->Prop} (X:K.In s.heap) (I:ObjM s.heap x dx C mA)
  (hs:PySem.W.findIn K (.ref C) "__setattr__" = some (some (.builtin "object.__setattr__"))) (hp:PySem.W.plainOver K C=true) (ht:PySem.W.takerIn K C name=some none) (hh:PySem.W.hasDictIn K C=true)
  (hw:PySem.Within mA ns) (hsz:ns.length<=sizeLine)
  (h:∀h',ObjM h' x dx C (λy=>if y=name then some v else mA y)->Heap.SameBut dx s.heap h'->Q () { s with heap:=h',toks:=s.toks+2 }) :
  wpAny (model prog w) A (setAttr (.ref x) name v) Q E s:=by
 obtain⟨od,J,hl⟩:=I.look
 refine PySem.W.set_plain X J hs (PySem.W.osa_open (s:={ s with toks:=s.toks+1 }) (r:=none) X J hp ht λb=>?_)
 obtain⟨cd,hc,hd'⟩:=PySem.W.any_some hh
 have hx:s.heap.get? x=some ⟨.ref C,some dx,.plain,#[]⟩:=I.obj
 refine zB0 (zP0 (zB0 (zB0 (wpAny_loadPart hx (zB0 (PySem.W.Looks.here (s:={ s with toks:=s.toks+1 }) (PySem.W.looks_clsIn X hc) ?_))))))
 rw [hd']
 refine zP0 (a:=some dx) (zB0 (zP0 (zB0 ?_)))
 refine wpAny_nsSet1 (s:={ s with toks:=s.toks+1 }) I.ns λh' hn2 hs2=>?_
 obtain⟨oD,esD,epD,hoD,hdD,hcD⟩:=hn2.count (PySem.Within.cons name v hw)
 refine zB0 (wpAny_lookBehind hoD (by rw [hdD];exact pastItsLine_dict (Nat.le_trans hcD (by rw [List.length_cons];omega))) ?_)
 exact zP0 (h _ ⟨(hs2.2 _ (Ne.symm I.ne)).trans I.obj,hn2,I.ne⟩ hs2)
theorem vQ {R:Result->Shared->Prop}{vs:List Value}{kw:List (Str × Value)} (X:K.In s.heap) (hm:PySem.W.makesIn K C=true)
  (hi:‹(K,C,f,"__init__")›) (hf:PySem.W.typeIn K (.ref f)=some (.type "function"))
  (h:codeAny (model prog w) (A.under (.builtin "type.__call__" ⟨.ref C::vs,kw⟩)) (.call (.ref f) ⟨.ref (s.heap.objs.size+1)::vs,kw⟩) (PySem.W.InitBack (s.heap.objs.size+1) R)
   { s with heap:=(s.heap.push PySem.W.emptyDict).push (PySem.W.instObj C s.heap.objs.size) }) :
  codeAny (model prog w) A (.call (.ref C) ⟨vs,kw⟩) R s:=by
 obtain⟨hh,g,d,t,os⟩:=s
 exact PySem.W.make_core (PySem.W.makes_of X hm) (PySem.W.looks_findIn X hi) (λself=>PySem.W.bind_fn X self hf) (.inl rfl) h
end
noncomputable def cX (f:Str) (v:V):List (Str × V)->List (Str × V)
 | []=>[(f,v)]
 | (g,x)::r=>if g=f then (g,v)::r else (g,x)::cX f v r
theorem iG (f g:Str) (v:V):∀fs:List (Str × V),(cX f v fs).lookup g=if g=f then some v else fs.lookup g
 | []=>by
  show List.lookup g [(f,v)]=_
  by_cases h:g=f
  ·have hb:(g == f)=true:=beq_iff_eq.mpr h
   simp only [List.lookup,hb,if_pos h]
  ·have hb:(g == f)=false:=beq_eq_false_iff_ne.mpr h
   simp only [List.lookup,hb,if_neg h]
 | (k,x)::r=>by
  have ih:=iG f g v r
  rw [show cX f v ((k,x)::r)=(if k=f then (k,v)::r else (k,x)::cX f v r) from rfl]
  by_cases hk:k=f
  ·rw [if_pos hk]
   by_cases h:g=k
   ·have hb:(g == k)=true:=beq_iff_eq.mpr h
    simp only [List.lookup,hb,if_pos (h.trans hk)]
   ·have hb:(g == k)=false:=beq_eq_false_iff_ne.mpr h
    simp only [List.lookup,hb,if_neg (λe:g=f=>h (e.trans hk.symm))]
  ·rw [if_neg hk]
   by_cases h:g=k
   ·have hb:(g == k)=true:=beq_iff_eq.mpr h
    simp only [List.lookup,hb,if_neg (λe:g=f=>hk (h.symm.trans e))]
   ·have hb:(g == k)=false:=beq_eq_false_iff_ne.mpr h
    simp only [List.lookup,hb]
    exact ih
theorem ir (f:Str) (v:V):∀fs:List (Str × V),f∈(cX f v fs).map (·.1)/\∀g,g∈fs.map (·.1)->g∈(cX f v fs).map (·.1)
 | []=>⟨by simp [cX],λg h=>by simp at h⟩
 | (k,x)::r=>by
  obtain⟨i1,i2⟩:=ir f v r
  rw [show cX f v ((k,x)::r)=(if k=f then (k,v)::r else (k,x)::cX f v r) from rfl]
  by_cases hk:k=f
  ·rw [if_pos hk]
   subst hk
   exact⟨by simp,λg h=>by simpa using h⟩
  ·rw [if_neg hk]
   refine⟨?_,λg h=>?_⟩
   ·rw [List.map_cons]
    exact List.mem_cons_of_mem _ i1
   ·rw [List.map_cons]at h ⊢
    rcases List.mem_cons.mp h with e | e
    ·exact List.mem_cons.mpr (.inl e)
    ·exact List.mem_cons_of_mem _ (i2 g e)
theorem dO (f:Str) (v:V):∀fs:List (Str × V),(cX f v fs).length<=fs.length+1
 | []=>by simp [cX]
 | (k,x)::r=>by
  have ih:=dO f v r
  rw [show cX f v ((k,x)::r)=(if k=f then (k,v)::r else (k,x)::cX f v r) from rfl]
  by_cases hk:k=f
  ·rw [if_pos hk,List.length_cons,List.length_cons];omega
  ·rw [if_neg hk,List.length_cons,List.length_cons];omega
theorem eZ.some_of {v:V}{o:Option Value} (r:eZ (some v) o):∃u,o=some u/\aV v u:=by
 cases o with
 | none=>exact(show False from r).elim
 | some u=>exact⟨u,rfl,r⟩
theorem eZ.none_of {o:Option Value} (r:eZ none o):o=none:=by
 cases o with
 | none=>rfl
 | some u=>exact(show False from r).elim
theorem sK {v:V}{u:Value} (r:aV v u):PySem.W.handedIn u=true:=by
 cases v with
 | non=>cases (show u=Value.none from r);rfl
 | bl b=>cases (show u=Value.bool b from r);rfl
 | int i=>obtain⟨t,e⟩:=(show ∃t,u=Value.int i t from r);cases e;rfl
 | str x=>obtain⟨t,e⟩:=(show ∃t,u=Value.str x t from r);cases e;rfl
 | byt b=>obtain⟨t,e⟩:=(show ∃t,u=Value.bytes b t from r);cases e;rfl
 | flt b=>obtain⟨t,e⟩:=(show ∃t,u=Value.float b t from r);cases e;rfl
 | ref a=>cases (show u=Value.ref a from r);rfl
 | ty n=>cases (show u=Value.type n from r);rfl
section
variable {P:Program}{w:World}{H H':Hp}{h h':Heap}{a C dx:Addr}{fs fs':List (Str × V)}
theorem j5 (hok:HOk P w H h) (e:H a=some (.ins C dx fs)):∃mA,ObjM h a dx C mA/\(∀f,eZ (fs.lookup f) (mA f))/\PySem.Within mA (fs.map (·.1))/\fs.length<=1000/\H dx=some (.own a):=by
 obtain⟨d,z,ne,ob,mA,n,r,q⟩:=(show bA P w H h a (.ins C dx fs) from hok a _ e)
 exact⟨mA,⟨ob,n,ne⟩,r,q,z,d⟩
end
structure Cls (K:PySem.W.Frag) (C:Addr):Prop where
 pg:PySem.W.plainGet K C Str.empty=true
 hd:PySem.W.hasDictIn K C=true
 po:PySem.W.plainOver K C=true
 sa:PySem.W.findIn K (.ref C) "__setattr__" = some (some (.builtin "object.__setattr__"))
theorem Cls.get {K:W.Frag}{C:Addr} (c:Cls K C) (f:Str):PySem.W.plainGet K C f=true:=c.pg
def NoAttr (K:PySem.W.Frag) (C:Addr) (f:Str):Prop:=PySem.W.findIn K (.ref C) f=some none
theorem NoAttr.taker {K:W.Frag}{C:Addr}{f:Str} (n:NoAttr K C f):PySem.W.takerIn K C f=some none:=by
 unfold PySem.W.takerIn
 rw [show PySem.W.findIn K (.ref C) f=some none from n]
 rfl
structure Meth (K:PySem.W.Frag) (C:Addr) (m:Str) (f:Addr):Prop where
 at_:PySem.W.findIn K (.ref C) m=some (some (.ref f))
 fn:‹[K,f]›
 kp:PySem.W.keepIn K (.ref f)=true
section
variable {X:Cx}{pins:List (Addr × Obj)}{σ:St}{H:Hp}{s:Shared}{a C dx:Addr}{fs:List (Str × V)}{f:Str}{v:V}{A:Around}{E:Value->Shared->Prop}
theorem jM {b:Bool}{Q:Value->Shared->Prop} (I:Inv X pins σ H s) (e:H a=some (.ins C dx fs)) (c:Cls X.K C) (n:NoAttr X.K C f) (l:fs.lookup f=some v)
  (h:∀u s',Inv X pins σ H s'->aV v u->Q u s'):wpAny (model X.prog X.w) A (getAttr (.ref a) f b) Q E s:=by
 obtain⟨mA,O,r,_,_,_⟩:=j5 I.hok e
 obtain⟨u,hu,ru⟩:=eZ.some_of (v:=v) (o:=mA f) (by rw [<- l];exact r f)
 exact ym I.kIn O (c.get f) c.hd n hu (sK ru) (h u _ (I.tok _) ru)
theorem eR {m:Str}{g:Addr}{pl:Sem Bool}{Q:Value × List Value->Shared->Prop} (I:Inv X pins σ H s) (e:H a=some (.ins C dx fs)) (c:Cls X.K C) (k:Meth X.K C m g) (l:fs.lookup m=none)
  (h:Q (.ref g,[.ref a]) s):wpAny (model X.prog X.w) A (getMethod (.ref a) m pl) Q E s:=by
 obtain⟨mA,O,r,_,_,_⟩:=j5 I.hok e
 have hn:mA m=none:=eZ.none_of (by rw [<- l];exact r m)
 exact wg I.kIn O (c.get m) k.at_ k.fn hn h
theorem jt {y:V}{u:Value}{Q:Unit->Shared->Prop} (I:Inv X pins σ H s) (e:H a=some (.ins C dx fs)) (c:Cls X.K C) (n:NoAttr X.K C f) (hl:fs.length < 1000) (ry:aV y u)
  (h:∀s',Inv X pins σ (upd H a (.ins C dx (cX f y fs))) s'->Q () s'):wpAny (model X.prog X.w) A (setAttr (.ref a) f u) Q E s:=by
 obtain⟨mA,O,r,wi,_,ho⟩:=j5 I.hok e
 have hz:(fs.map (·.1)).length<=sizeLine:=by rw [List.length_map,sizeLine_eq];omega
 refine xl I.kIn O c.sa c.po n.taker c.hd wi hz λh' O' sb=>h _ ?_
 have hd:∃o,h'.get? dx=some o:=let ⟨o,_,_,e',_⟩:=O'.ns;⟨o,e'⟩
 refine I.write (x:=a) (e:=dx) (by rw [e];exact True.intro) (.inr ho) (λb q hb z=>(sb.2 b hb).trans z) hd ?_
 refine⟨by rw [ah O.ne];exact ho,?_,O.ne,O'.obj,_,O'.ns,λg=>?_,λg hg=>?_⟩
 ·have:=dO f y fs;omega
 ·show eZ ((cX f y fs).lookup g) (if g=f then some u else mA g)
  rw [iG]
  by_cases q:g=f
  ·rw [if_pos q,if_pos q];exact ry
  ·rw [if_neg q,if_neg q];exact r g
 ·by_cases q:g=f
  ·rw [q];exact(ir f y fs).1
  ·refine(ir f y fs).2 g (wi g λz=>hg ?_)
   show (if g=f then some u else mA g)=none
   rw [if_neg q];exact z
theorem Inv.made (I:Inv X pins σ H s):Inv X pins σ (upd (upd H s.heap.objs.size (.own (s.heap.objs.size+1))) (s.heap.objs.size+1) (.ins C s.heap.objs.size []))
  { s with heap:=(s.heap.push PySem.W.emptyDict).push (PySem.W.instObj C s.heap.objs.size) }:=by
 have e1:(s.heap.push PySem.W.emptyDict).get? s.heap.objs.size=some PySem.W.emptyDict:=Heap.get?_push_size s.heap rfl
 have e2:((s.heap.push PySem.W.emptyDict).push (PySem.W.instObj C s.heap.objs.size)).get? (s.heap.objs.size+1)=some (PySem.W.instObj C s.heap.objs.size):=by
  have:=Heap.get?_push_size (s.heap.push PySem.W.emptyDict) (o:=PySem.W.instObj C s.heap.objs.size) rfl
  rwa [Heap.size_push]at this
 have e3:(s.heap.push PySem.W.emptyDict).Ns s.heap.objs.size (λ_=>none):=⟨PySem.W.emptyDict,#[],_,e1,rfl,(λe he=>absurd he (by simp)),λ_=>rfl⟩
 have I1:=I.laid (a:=s.heap.objs.size) (o:=.own (s.heap.objs.size+1)) (h':=s.heap.push PySem.W.emptyDict) (t':=s.toks) (λb u q=>zH0 _ q) (Nat.le_refl _) ⟨_,e1⟩
 refine I1.laid (a:=s.heap.objs.size+1) (o:=.ins C s.heap.objs.size []) (t':=s.toks) (λb u q=>zH0 _ q) (Nat.le_of_eq (Heap.size_push _ _)) ?_
 have ne:s.heap.objs.size≠s.heap.objs.size+1:=Nat.ne_of_lt (Nat.lt_succ_self _)
 refine⟨by rw [ah ne,aj],Nat.zero_le _,ne,e2,λ_=>none,(Heap.Ns1.of_empty e3).at λo q=>zH0 _ q,λ_=>True.intro,λy hy=>absurd rfl hy⟩
theorem yy {prog:Program}{w:World}{env:Env}{e:Expr}{f:Str}{pos:Pos}{s:Shared}{Q:Value->Shared->Prop} (hb:attributeBase e f env (eval e env)=eval e env)
  (h:wpAny (model prog w) A (eval e env) (λo s₁=>wpAny (model prog w) A (getAttr o f true) Q E s₁) E s):wpAny (model prog w) A (eval (.Attribute e f pos) env) Q E s:=
 Attribute_any_ h (by rw [arm_eval_Attribute,hb])
end
inductive C7 (K:PySem.W.Frag) (f:Str) (x:V) (H1:Hp) (Q:VK):Prop
 | mk (a C dx fs v) (h1:x=.ref a) (h2:H1 a=some (.ins C dx fs)) (h3:Cls K C) (h4:NoAttr K C f) (h5:fs.lookup f=some v) (h6:Q v H1):C7 K f x H1 Q
noncomputable def Cq (K:PySem.W.Frag) (ta:TE) (f:Str):TE:=λσ H Q=>ta σ H λx H1=>C7 K f x H1 Q
noncomputable def Cw (K:PySem.W.Frag) (ta tv:TE) (f:Str):TS:=λD σ H=>tv σ H λy H1=>ta σ H1 λx H2=>∃a C dx fs,x=.ref a/\H2 a=some (.ins C dx fs)/\Cls K C/\NoAttr K C f/\fs.length < 1000/\
 D.nx σ (upd H2 a (.ins C dx (cX f y fs)))
def Bi (X:Cx) (op:Operator) (rd:V->V->Hp->VK->Prop):Prop:=
 ∀(pins:List (Addr × Obj)) (s:Shared) (σ:St) (H:Hp) (x y:V) (u v:Value) (Q:VK),Inv X pins σ H s->aV x u->aV y v->rd x y H Q->wpAny (model X.prog X.w) X.A (inplaceOp op u v) (EP X pins σ Q) X.xe s
noncomputable def xB (K:PySem.W.Frag) (ta tv:TE) (rd:V->V->Hp->VK->Prop) (f:Str):TS:=λD σ H=>ta σ H λx H1=>∃a C dx fs v,x=.ref a/\H1 a=some (.ins C dx fs)/\Cls K C/\NoAttr K C f/\fs.lookup f=some v/\
 tv σ H1 λy H2=>rd v y H2 λz H3=>∃dx' fs',H3 a=some (.ins C dx' fs')/\fs'.length < 1000/\D.nx σ (upd H3 a (.ins C dx' (cX f z fs')))
section
variable {X:Cx}{o e value:Expr}{f:Str}{pos pos' tpos:Pos}{ta tv:TE}
theorem cb (he:PE X e ta) (hb:attributeBase e f X.env (eval e X.env)=eval e X.env):PE X (.Attribute e f pos) (Cq X.K ta f):=by
 intro pins s σ H Q I h
 refine yy hb (thn (he pins s σ H _ I h) λu s1 ⟨x,H1,I1,rx,a,C,dx,fs,v,ex,ea,c,n,l,q⟩=>?_)
 subst ex
 obtain rfl:u=Value.ref a:=rx
 exact jM I1 ea c n l λu' s2 I2 ru=>⟨v,H1,I2,ru,q⟩
theorem bz (ha:PE X o ta) (hv:PE X value tv) (hs:swapsWith value (some (.Attribute o f pos')) pos.line X.env=pure false):PS X (.Assign [.Attribute o f pos'] value pos) (Cw X.K ta tv f):=by
 intro pins s σ H D I h
 refine plainObj_wpAny_Assign_Attribute (thn (hv pins s σ H _ I h) λu s1 ⟨y,H1,I1,ry,q⟩=>thn (ha pins s1 σ H1 _ I1 q) λov s2 ⟨x,H2,I2,rx,a,C,dx,fs,ex,ea,c,n,l,q2⟩=>?_) hs
 subst ex
 obtain rfl:ov=Value.ref a:=rx
 exact jt I2 ea c n l ry λs3 I3=>⟨σ,_,I3,q2⟩
theorem ii {op:Operator}{rd:V->V->Hp->VK->Prop} (ha:PE X o ta) (hv:PE X value tv) (hop:Bi X op rd):PS X (.AugAssign (.Attribute o f tpos) op value pos) (xB X.K ta tv rd f):=by
 intro pins s σ H D I h
 refine wpAny_AugAssign_AttributeAny (thn (ha pins s σ H _ I h) λov s1 ⟨x,H1,I1,rx,a,C,dx,fs,v,ex,ea,c,n,l,q⟩=>?_)
 subst ex
 obtain rfl:ov=Value.ref a:=rx
 refine jM I1 ea c n l λu s2 I2 ru=>thn (hv pins s2 σ H1 _ I2 q) λw3 s3 ⟨y,H2,I3,ry,q3⟩=>thn (hop pins s3 σ H2 v y u w3 _ I3 ru ry q3) λw4 s4 ⟨z,H3,I4,rz,dx',fs',ea',l',q4⟩=>?_
 exact jt I4 ea' c n l' rz λs5 I5=>⟨σ,_,I5,q4⟩
noncomputable def CF:V->V->Hp->VK->Prop:=λx y H Q=>∃i j,x=.int i/\y=.int j/\Q (.int (i+j)) H
noncomputable def Cy:V->V->Hp->VK->Prop:=λx y H Q=>∃i j,x=.int i/\y=.int j/\Q (.int (i - j)) H
theorem wa:Bi X .Add CF:=by
 rintro pins s σ H x y u v Q I rx ry ⟨i,j,rfl,rfl,q⟩
 obtain⟨t,rfl⟩:=(show ∃t,u=Value.int i t from rx)
 obtain⟨t',rfl⟩:=(show ∃t',v=Value.int j t' from ry)
 exact PyProof.Rows.iadd_int ⟨.int (i+j),H,I.tok _,⟨_,rfl⟩,q⟩
theorem AY:Bi X .Sub Cy:=by
 rintro pins s σ H x y u v Q I rx ry ⟨i,j,rfl,rfl,q⟩
 obtain⟨t,rfl⟩:=(show ∃t,u=Value.int i t from rx)
 obtain⟨t',rfl⟩:=(show ∃t',v=Value.int j t' from ry)
 exact PyProof.Rows.isub_int ⟨.int (i - j),H,I.tok _,⟨_,rfl⟩,q⟩
end
section
variable {X:Cx}{pins:List (Addr × Obj)}{σ:St}{H:Hp}{s:Shared}{A:Around}{E:Value->Shared->Prop}{Q:Value->Shared->Prop}{c:Value}{b:Bool}
inductive TyOf (K:PySem.W.Frag) (H:Hp):V->Value->Prop where
 | non:TyOf K H .non (.type "NoneType")
 | bl (x:Bool):TyOf K H (.bl x) (.type "bool")
 | int (i:Int):TyOf K H (.int i) (.type "int")
 | str (x:Str):TyOf K H (.str x) (.type "str")
 | flt (x:UInt64):TyOf K H (.flt x) (.type "float")
 | lst {a:Addr}{xs:List V} (e:H a=some (.lst xs)):TyOf K H (.ref a) (.type "list")
 | frz {a:Addr}{o:Obj}{xs:List V} (e:H a=some (.frz o (.lst xs))):TyOf K H (.ref a) (.type "list")
 | tup {a:Addr}{xs:List V} (e:H a=some (.tup xs)):TyOf K H (.ref a) (.type "tuple")
 | dK {a:Addr}{kvs:List (Key × V)} (e:H a=some (.dK kvs)):TyOf K H (.ref a) (.type "dict")
 | dT {a:Addr}{kvs:List (List Key × V)} (e:H a=some (.dT kvs)):TyOf K H (.ref a) (.type "dict")
 | ins {a C dx:Addr}{fs:List (Str × V)} (e:H a=some (.ins C dx fs)) (cl:Cls K C) (ha:PySem.W.findIn K (.ref C) "__class__" = some (some (.builtin "object.__class__")))
   (hn:PySem.W.specialIn K (.builtin "object.__class__") "__get__" = some (some (.builtin "getset_descriptor.__get__"))) (htk:PySem.W.takesIn K (.builtin "object.__class__")=some true)
   (hm:PySem.W.mroIn K C (.type "object")=some true):TyOf K H (.ref a) (.ref C)
theorem sI {x:V}{u t:Value} (I:Inv X pins σ H s) (rx:aV x u) (ty:TyOf X.K H x t) (e:PySem.W.kitOne X.K t c=some b) (h:∀tk,Q (.bool b) { s with toks:=tk }) :
  wpAny (model X.prog X.w) A (call (.builtin "isinstance") [u,c]) Q E s:=by
 cases ty with
 | non=>cases (show u=Value.none from rx);exact PySem.W.kia_one PySem.W.kitx_none I.kIn True.intro e (λz=>nomatch z) h
 | bl y=>cases (show u=Value.bool y from rx);exact PySem.W.kia_one PySem.W.kitx_bool I.kIn True.intro e (λz=>nomatch z) h
 | int i=>obtain⟨t,q⟩:=(show ∃t,u=Value.int i t from rx);cases q;exact PySem.W.kia_one PySem.W.kitx_int I.kIn True.intro e (λz=>nomatch z) h
 | str y=>obtain⟨t,q⟩:=(show ∃t,u=Value.str y t from rx);cases q;exact PySem.W.kia_one PySem.W.kitx_str I.kIn True.intro e (λz=>nomatch z) h
 | flt y=>obtain⟨t,q⟩:=(show ∃t,u=Value.float y t from rx);cases q;exact PySem.W.kia_one PySem.W.kitx_float I.kIn True.intro e (λz=>nomatch z) h
 | @lst a xs ea=>
  cases (show u=Value.ref a from rx)
  obtain⟨_,_,n,_,h1⟩:=(show bA X.prog X.w H s.heap a (.lst xs) from I.hok a _ ea)
  exact PySem.W.kia_one PySem.W.kitx_list I.kIn ⟨_,h1,rfl⟩ e (λz=>nomatch z) h
 | @frz a ob xs ea=>
  cases (show u=Value.ref a from rx)
  obtain⟨_,_,_,n,_,h1⟩:=(show bA X.prog X.w H s.heap a (.frz ob (.lst xs)) from I.hok a _ ea)
  exact PySem.W.kia_one PySem.W.kitx_list I.kIn ⟨_,h1,rfl⟩ e (λz=>nomatch z) h
 | @tup a xs ea=>
  cases (show u=Value.ref a from rx)
  obtain⟨_,_,_,p⟩:=(show bA X.prog X.w H s.heap a (.tup xs) from I.hok a _ ea)
  obtain⟨o,h1,h2,_⟩:=p
  exact PySem.W.kia_one PySem.W.kitx_tuple I.kIn ⟨o,h1,h2⟩ e (λz=>nomatch z) h
 | @dK a kvs ea=>
  cases (show u=Value.ref a from rx)
  obtain⟨_,_,vs,_,p⟩:=(show bA X.prog X.w H s.heap a (.dK kvs) from I.hok a _ ea)
  obtain⟨o,es,ep,h1,h2,_⟩:=p
  exact PySem.W.kia_one PySem.W.kitx_dict I.kIn ⟨o,h1,h2.1⟩ e (λz=>nomatch z) h
 | @dT a kvs ea=>
  cases (show u=Value.ref a from rx)
  obtain⟨_,_,xs,_,o,es,ep,h1,h2,_⟩:=(show bA X.prog X.w H s.heap a (.dT kvs) from I.hok a _ ea)
  exact PySem.W.kia_one PySem.W.kitx_dict I.kIn ⟨o,h1,h2.1⟩ e (λz=>nomatch z) h
 | @ins a C dx fs ea cl ha hn htk hm=>
  cases (show u=Value.ref a from rx)
  obtain⟨mA,O,_⟩:=j5 I.hok ea
  obtain⟨od,J,_⟩:=O.look
  exact PySem.W.kia_one (PySem.W.kitx_own (cl.get _) cl.hd ha hn htk hm) I.kIn J e (λz=>nomatch z) h
end
structure Room (k:Nat) (A:Around):Prop where
 hd:A.handled=none
 dp:A.depth+3 * k+5 < recursionLimit
 un:A.units+16 * k+200 < cLine
 gd:A.guards=some []
theorem Room.mono {j k:Nat}{A:Around} (r:Room k A) (h:j<=k):Room j A:=⟨r.hd,by have:=r.dp;omega,by have:=r.un;omega,r.gd⟩
theorem Room.deeper {k:Nat}{A:Around} (r:Room (k+1) A) (env:Env):Room k (A.deeper env):=
 ⟨r.hd,by have:=r.dp;show A.depth+1+3 * k+5 < _;omega,by have:=r.un;show A.units+3+16 * k+200 < _;omega,r.gd⟩
theorem qc {A:Around}{C:Addr}{us:List Value}{kw:List (Str × Value)}:(A.under (.builtin "type.__call__" ⟨.ref C::us,kw⟩)).depth=A.depth+1:=by
 first | rfl | simp [Around.under,Code.weight,Code.isCreation,Code.isGuard,Code.isCaller,Code.frames,Code.isFrame,guardIds]
theorem pZ {A:Around}{C:Addr}{us:List Value}{kw:List (Str × Value)}:(A.under (.builtin "type.__call__" ⟨.ref C::us,kw⟩)).units=A.units+1:=by
 first | rfl | simp [Around.under,Code.cUnits,Code.frames,Code.isFrame]
theorem Room.make {k:Nat}{A:Around} (r:Room (k+1) A) (C:Addr) (us:List Value) (kw:List (Str × Value)):Room k (A.under (.builtin "type.__call__" ⟨.ref C::us,kw⟩)):=
 ⟨r.hd,by have:=r.dp;rw [qc];omega,by have:=r.un;rw [pZ];omega,by have h:=r.gd;first | (unfold Around.under;simp [h,pushGuards,Code.guards,Code.isGuard,guardIds]) | (simp [Around.under,h,pushGuards,Code.guards,Code.isGuard,guardIds])⟩
theorem Room.depth {k:Nat}{A:Around} (r:Room k A):A.depth < recursionLimit:=by have:=r.dp;omega
theorem Room.units {k:Nat}{A:Around} (r:Room k A):A.units+64 < cLine:=by have:=r.un;omega
noncomputable def i0:TA:=λ_ H Q=>Q [] H
noncomputable def cF (ta:TE) (tr:TA):TA:=λσ H Q=>ta σ H λx H1=>tr σ H1 λxs H2=>Q (x::xs) H2
section
variable {X:Cx}{e:Expr}{es:List Expr}{te:TE}{t:TA}{pos:Pos}
theorem ae:PA X [] i0:=λ_ _ _ _ H Q I h=>Calls.spliced_nil ⟨[],H,I,.nil,h⟩
theorem az (ha:PE X e te) (hr:PA X es t) (hs:starEach (e::es) X.env=(false,eval e X.env)::starEach es X.env:=by rfl):PA X (e::es) (cF te t):=by
 intro pos pins s σ H Q I h
 rw [hs]
 show wpAny _ _ (spliced ((false,eval e X.env)::backTo pos (starEach es X.env))) _ _ s
 refine Calls.spliced_cons (thn (ha pins s σ H _ I h) λu s1 ⟨x,H1,I1,r1,q1⟩=>?_)
 exact thn (hr pos pins s1 σ H1 _ I1 q1) λus s2 ⟨xs,H2,I2,r2,q2⟩=>⟨x::xs,H2,I2,.cons r1 r2,q2⟩
noncomputable def Ck (t:TA):TE:=λσ H Q=>t σ H λxs H1=>xs.length<=sizeLine/\∀p,H1 p=none->Q (.ref p) (upd H1 p (.tup xs))
noncomputable def Cn (t:TA):TE:=λσ H Q=>t σ H λxs H1=>xs.length<=sizeLine/\∀p,H1 p=none->Q (.ref p) (upd H1 p (.lst xs))
theorem bN {x1} (h:PA X es t):PE X (.Tuple es x1 pos) (Ck t):=by
 intro pins s σ H Q I hq
 refine wpAny_Tuple_spliced (thn (h pos pins s σ H _ I hq) λus s1 ⟨xs,H1,I1,r,z,q⟩=>⟨by rw [<- r.length];exact z,?_⟩)
 have hf:H1 s1.heap.objs.size=none:=I1.hok.fresh (Nat.le_refl _)
 refine⟨.ref s1.heap.objs.size,upd H1 s1.heap.objs.size (.tup xs),I1.laid (t':=s1.toks) (λb u e=>zH0 _ e) (Nat.le_refl _) ?_,rfl,q _ hf⟩
 exact⟨z,us,r,⟨_,Heap.get?_push_size _ rfl,rfl,_,rfl⟩⟩
theorem aR (h:PA X es t):PE X (.List es pos) (Cn t):=by
 intro pins s σ H Q I hq
 refine wpAny_List_spliced (thn (h pos pins s σ H _ I hq) λus s1 ⟨xs,H1,I1,r,z,q⟩=>⟨by rw [<- r.length];exact z,?_⟩)
 have hf:H1 s1.heap.objs.size=none:=I1.hok.fresh (Nat.le_refl _)
 refine⟨.ref s1.heap.objs.size,upd H1 s1.heap.objs.size (.lst xs),I1.laid (t':=s1.toks) (λb u e=>zH0 _ e) (Nat.le_refl _) ?_,rfl,q _ hf⟩
 exact⟨z,us,0,r,Heap.get?_push_size _ rfl⟩
end
noncomputable abbrev Sp:=List V->Hp->VK->XK->Prop
noncomputable abbrev CXT:=List Env->Hp->Shared->XK->Value->Shared->Prop
structure Env0 (P:Program) (w:World) (K:PySem.W.Frag) (mg:Str->Option Value) (base:Heap) (A:Around) (outer:List Env) (s:Shared) (H:Hp):Prop where
 frames:A.frames=some outer
 mod:Mod K mg base
 bs:∀b o,base.get? b=some o->s.heap.get? b=some o/\H b=none
 bsz:base.objs.size<=s.heap.objs.size
 funs:s.heap.FunFrames base outer
 frf:∀b∈frs outer,H b=none
 hok:HOk P w H s.heap
 bare:AllBare s.gens
def CE (outer:List Env) (P:Program) (w:World) (H:Hp) (s:Shared) (Q:VK) (u:Value) (s':Shared):Prop:=
 ∃v H',s'.os=s.os/\AllBare s'.gens/\Un (frs outer) [] H H' s.heap s'.heap/\HOk P w H' s'.heap/\aV v u/\Q v H'
def CR (CX:CXT) (outer:List Env) (P:Program) (w:World) (H:Hp) (s:Shared) (Q:VK) (E:XK) (r:Result) (s':Shared):Prop:=
 match r with
 | .ok (.ret u)=>CE outer P w H s Q u s'
 | .ok _=>False
 | .error e=>CX outer H s E e s'
structure FnOk (P:Program) (w:World) (K:PySem.W.Frag) (mg:Str->Option Value) (base:Heap) (CX:CXT) (k:Nat) (f:Addr) (fd:FuncData) (ps:List Str) (sp:Sp):Prop where
 len:∀vs H Q E,sp vs H Q E->vs.length=ps.length
 run:∀(A:Around) (outer:List Env) (s:Shared) (H:Hp) (args:Args) (us:List Value) (vs:List V) (Q:VK) (E:XK),Room k A->Env0 P w K mg base A outer s H->BindsTo s fd args (ps.zip us)->aM vs us->sp vs H Q E->
  codeAny (model P w) A (.call (.ref f) args) (CR CX outer P w H s Q E) s
theorem FnOk.mono {P:Program}{w:World}{K:W.Frag}{mg:Str->Option Value}{base:Heap}{CX:CXT}{j k:Nat}{f:Addr}{fd:FuncData}{ps:List Str}{sp:Sp} (F:FnOk P w K mg base CX j f fd ps sp) (h:j<=k) :
  FnOk P w K mg base CX k f fd ps sp:=⟨F.len,λA outer s H args us vs Q E hr=>F.run A outer s H args us vs Q E (hr.mono h)⟩
theorem Env0.make {P:Program}{w:World}{K:W.Frag}{mg:Str->Option Value}{base:Heap}{A:Around}{outer:List Env}{s:Shared}{H:Hp} (e:Env0 P w K mg base A outer s H) (C:Addr) (us:List Value) (kw:List (Str × Value)) :
  Env0 P w K mg base (A.under (.builtin "type.__call__" ⟨.ref C::us,kw⟩)) outer s H:=⟨by first | exact e.frames | (simpa [Around.under,Code.envs,Code.isFrame,pushEnvs] using e.frames),e.mod,e.bs,e.bsz,e.funs,e.frf,e.hok,e.bare⟩
section
variable {X:Cx}{pins:List (Addr × Obj)}{σ:St}{H:Hp}{s s':Shared}
theorem Inv.env0 (I:Inv X pins σ H s):Env0 X.prog X.w X.K X.mg X.base X.A X.stack s H:=
 ⟨I.ok.frames,I.ok.mod,I.bs,Nat.le_trans I.ok.bsz I.sz,I.stack,I.stkFree,I.hok,I.bare⟩
theorem Inv.after {Q:VK}{u:Value} (I:Inv X pins σ H s) (h:CE X.stack X.prog X.w H s Q u s'):EP X pins σ Q u s':=by
 obtain⟨v,H',os,bare,un,hok,r,q⟩:=h
 obtain⟨hh,g,d,t,os'⟩:=s'
 obtain rfl:os'=s.os:=os
 exact⟨v,H',I.call (h':=hh) (g':=g) (d':=d) (t':=t) (ch:=[]) un hok bare (λb z=>absurd z (by simp)),r,q⟩
end
noncomputable def jg (sp:Sp) (dvs:List V) (E:XK) (t:TA):TE:=λσ H Q=>t σ H λvs H1=>sp (vs++dvs) H1 Q E
noncomputable def yI (C:Addr) (m:Str) (sp:Sp) (dvs:List V) (E:XK) (ta:TE) (t:TA):TE:=λσ H Q=>ta σ H λx H1=>∃a dx fs,x=.ref a/\H1 a=some (.ins C dx fs)/\fs.lookup m=none/\
 t σ H1 λvs H2=>sp (x::(vs++dvs)) H2 Q E
noncomputable def Bz (C:Addr) (sp:Sp) (dvs:List V) (E:XK) (t:TA):TE:=λσ H Q=>t σ H λvs H1=>∀x dx,H1 x=none->H1 dx=none->dx≠x->
 sp (.ref x::(vs++dvs)) (upd (upd H1 dx (.own x)) x (.ins C dx [])) (λv H2=>v=.non/\Q (.ref x) H2) E
def cj (K:PySem.W.Frag) (fd:FuncData) (ps:List Str) (ds:List Value):Prop:=
 ∀(s:Shared) (us:List Value),K.In s.heap->(us++ds).length=ps.length->BindsTo s fd ⟨us,[]⟩ (ps.zip (us++ds))
theorem cj.all {K:W.Frag}{fd:FuncData}{ps:List Str} (h:∀us:List Value,us.length=ps.length->bindArgs fd ⟨us,[]⟩=pure (ps.zip us)):cj K fd ps []:=λs us _ hl=>by
 rw [List.append_nil]at hl ⊢
 exact .of_eq (h us hl)
def dJ (CX:CXT) (X:Cx) (E:XK):Prop:=∀(pins:List (Addr × Obj)) (σ:St) (H:Hp) (s:Shared) (e:Value) (s':Shared),Inv X pins σ H s->CX X.stack H s E e s'->X.xe e s'
section
variable {X:Cx}{CX:CXT}{k:Nat}{f C:Addr}{fd:FuncData}{ps:List Str}{sp:Sp}{dvs:List V}{ds:List Value}{E:XK}{x m:Str}{p pos apos:Pos}{e o:Expr}{es:List Expr}{ta:TE}{t:TA}
theorem ig {pins:List (Addr × Obj)}{σ:St}{H:Hp}{s:Shared}{Q:VK}{us:List Value}{vs:List V} (F:FnOk X.prog X.w X.K X.mg X.base CX k f fd ps sp) (hr:Room k X.A) (hb:cj X.K fd ps ds) (hd:aM dvs ds) (hx:dJ CX X E)
  (I:Inv X pins σ H s) (r:aM vs us) (h:sp (vs++dvs) H Q E):wpAny (model X.prog X.w) X.A (call (.ref f) us) (EP X pins σ Q) X.xe s:=by
 have r2:aM (vs++dvs) (us++ds):=r.append hd
 have hl:(us++ds).length=ps.length:=by rw [<- r2.length];exact F.len _ _ _ _ h
 refine wpAny_call (codeAny_mono (F.run X.A X.stack s H ⟨us,[]⟩ (us++ds) (vs++dvs) Q E hr I.env0 (hb s us I.kIn hl) r2 h) λr s' hq=>?_)
 cases r with
 | error e=>exact hx pins σ H s e s' I hq
 | ok fl=>
  cases fl with
  | ret u=>exact I.after hq
  | next=>exact False.elim hq
  | brk=>exact False.elim hq
  | cont=>exact False.elim hq
theorem aw (F:FnOk X.prog X.w X.K X.mg X.base CX k f fd ps sp) (hr:Room k X.A) (hg:Gl X x) (hm:X.mg x=some (.ref f)) (hk:PySem.W.keepIn X.K (.ref f)=true) (hb:cj X.K fd ps ds) (hd:aM dvs ds) (hx:dJ CX X E)
  (ha:PA X (e::es) t) (hdb:(x == ("__debug__" : Str))=false:=by decide) (he:starEach (e::es) X.env=(false,eval e X.env)::starEach es X.env:=by rfl) (hpl:(backTo pos (starEach es X.env)).any (·.1)=false:=by rfl) :
  PE X (.Call (.Name x p) (e::es) [] pos) (jg sp dvs E t):=by
 intro pins s σ H Q I h
 refine wpAny_Call_Name_kw (j4 I hg hm ?_ hdb)
 refine PySem.W.callWith_K (h₀:=X.base) I.ok.mod.kin hk (thn (ha pos pins s σ H _ I h) λus s1 ⟨vs,H1,I1,r,q⟩=>⟨I1.kIn,?_⟩) he hpl
 exact ig F hr hb hd hx I1 r q
theorem bH {pl:Sem Bool} (he:PE X o ta) (c:Cls X.K C) (hm:Meth X.K C m f) (F:FnOk X.prog X.w X.K X.mg X.base CX k f fd ps sp) (hr:Room k X.A) (hb:cj X.K fd ps ds) (hd:aM dvs ds) (hx:dJ CX X E) (ha:PA X (e::es) t)
  (hst:starEach (e::es) X.env=(false,eval e X.env)::starEach es X.env:=by rfl) (hpl:(backTo pos (starEach es X.env)).any (·.1)=false:=by rfl)
  (ht:eval (.Call (.Attribute o m apos) (e::es) [] pos) X.env=(do
   let ov <- eval o X.env
   standAt apos.atName
   let (f,first) <- holding [ov] (getMethod ov m pl)
   callWith pos f first (backTo pos (starEach (e::es) X.env)) (backToKw pos (keywordEach [] X.env))):=by rfl) :
  PE X (.Call (.Attribute o m apos) (e::es) [] pos) (yI C m sp dvs E ta t):=by
 intro pins s σ H Q I h
 refine PySem.W.methodCall_KW (pl:=pl) (thn (he pins s σ H _ I h) λu s1 ⟨x,H1,I1,rx,a,dx,fs,ex,ea,l,q⟩=>?_) ht
 subst ex
 obtain rfl:u=Value.ref a:=rx
 refine eR I1 ea c hm l ?_
 refine PySem.W.callWith_K (first:=[.ref a]) (h₀:=X.base) I.ok.mod.kin hm.kp (thn (ha pos pins s1 σ H1 _ I1 q) λus s2 ⟨vs,H2,I2,r,q2⟩=>⟨I2.kIn,?_⟩) hst hpl
 exact ig (us:=.ref a::us) (vs:=.ref a::vs) F hr hb hd hx I2 (.cons rfl r) q2
theorem bw {pl:Sem Bool} (he:PE X o ta) (c:Cls X.K C) (hm:Meth X.K C m f) (F:FnOk X.prog X.w X.K X.mg X.base CX k f fd ps sp) (hr:Room k X.A) (hb:cj X.K fd ps ds) (hd:aM dvs ds) (hx:dJ CX X E)
  (ht:eval (.Call (.Attribute o m apos) [] [] pos) X.env=(do
   let ov <- eval o X.env
   standAt apos.atName
   let (f,first) <- holding [ov] (getMethod ov m pl)
   callWith pos f first (backTo pos (starEach [] X.env)) (backToKw pos (keywordEach [] X.env))):=by rfl) :
  PE X (.Call (.Attribute o m apos) [] [] pos) (yI C m sp dvs E ta i0):=by
 intro pins s σ H Q I h
 refine PySem.W.methodCall_KW (pl:=pl) (thn (he pins s σ H _ I h) λu s1 ⟨x,H1,I1,rx,a,dx,fs,ex,ea,l,q⟩=>?_) ht
 subst ex
 obtain rfl:u=Value.ref a:=rx
 refine eR I1 ea c hm l ?_
 exact PySem.W.callWith_K0 (first:=[.ref a]) I1.kIn hm.kp (ig (us:=[.ref a]) (vs:=[.ref a]) F hr hb hd hx I1 (.cons rfl .nil) q)
structure Mk (K:PySem.W.Frag) (C f:Addr):Prop where
 makes:PySem.W.makesIn K C=true
 init:‹(K,C,f,"__init__")›
 fn:‹[K,f]›
 kp:PySem.W.keepIn K (.ref C)=true
theorem uR {pins:List (Addr × Obj)}{σ:St}{H:Hp}{s:Shared}{Q:VK}{us:List Value}{vs:List V} (M:Mk X.K C f) (F:FnOk X.prog X.w X.K X.mg X.base CX k f fd ps sp) (hr:Room (k+1) X.A) (hb:cj X.K fd ps ds) (hd:aM dvs ds)
  (hx:dJ CX X E) (I:Inv X pins σ H s) (r:aM vs us)
  (h:∀x dx,H x=none->H dx=none->dx≠x->sp (.ref x::(vs++dvs)) (upd (upd H dx (.own x)) x (.ins C dx [])) (λv H2=>v=.non/\Q (.ref x) H2) E) :
  wpAny (model X.prog X.w) X.A (call (.ref C) us) (EP X pins σ Q) X.xe s:=by
 have hq:=h (s.heap.objs.size+1) s.heap.objs.size (I.hok.fresh (Nat.le_succ _)) (I.hok.fresh (Nat.le_refl _)) (Nat.ne_of_lt (Nat.lt_succ_self _))
 have I2:=Inv.made (C:=C) I
 have r2:aM (V.ref (s.heap.objs.size+1)::(vs++dvs)) (Value.ref (s.heap.objs.size+1)::(us++ds)):=.cons rfl (r.append hd)
 have hl:(Value.ref (s.heap.objs.size+1)::us++ds).length=ps.length:=by
  have e:=r2.length
  rw [F.len _ _ _ _ hq]at e
  exact e.symm
 refine wpAny_call (vQ (f:=f) I.kIn M.makes M.init (beq_iff_eq.mp M.fn) (codeAny_mono (F.run _ X.stack _ _ ⟨Value.ref (s.heap.objs.size+1)::us,[]⟩ (Value.ref (s.heap.objs.size+1)::(us++ds)) _ _ E (hr.make C us [])
  (I2.env0.make C us []) (hb _ (Value.ref (s.heap.objs.size+1)::us) I2.kIn hl) r2 hq) λr s' hq'=>?_))
 cases r with
 | error e=>exact hx pins σ _ _ e s' I2 hq'
 | ok fl=>
  cases fl with
  | ret u=>
   obtain⟨v,H',I3,rv,ev,q3⟩:=I2.after hq'
   subst ev
   exact⟨rv,⟨V.ref (s.heap.objs.size+1),H',I3,rfl,q3⟩⟩
  | next=>exact False.elim hq'
  | brk=>exact False.elim hq'
  | cont=>exact False.elim hq'
theorem dh (M:Mk X.K C f) (F:FnOk X.prog X.w X.K X.mg X.base CX k f fd ps sp) (hr:Room (k+1) X.A) (hg:Gl X x) (hm:X.mg x=some (.ref C)) (hb:cj X.K fd ps ds) (hd:aM dvs ds) (hx:dJ CX X E)
  (ha:PA X (e::es) t) (hdb:(x == ("__debug__" : Str))=false:=by decide) (he:starEach (e::es) X.env=(false,eval e X.env)::starEach es X.env:=by rfl) (hpl:(backTo pos (starEach es X.env)).any (·.1)=false:=by rfl) :
  PE X (.Call (.Name x p) (e::es) [] pos) (Bz C sp dvs E t):=by
 intro pins s σ H Q I h
 refine wpAny_Call_Name_kw (j4 I hg hm ?_ hdb)
 refine PySem.W.callWith_K (h₀:=X.base) I.ok.mod.kin M.kp (thn (ha pos pins s σ H _ I h) λus s1 ⟨vs,H1,I1,r,q⟩=>⟨I1.kIn,?_⟩) he hpl
 exact uR M F hr hb hd hx I1 r q
end
def PK (X:Cx) (kws:List Keyword) (t:TA):Prop:=
 ∀(pos:Pos) (pins:List (Addr × Obj)) (s:Shared) (σ:St) (H:Hp) (Q:List V->Hp->Prop),Inv X pins σ H s->t σ H Q->wpAny (model X.prog X.w) X.A (evalAll ((backToKw pos (keywordEach kws X.env)).map (·.2))) (AP X pins σ Q) X.xe s
section
variable {X:Cx}{CX:CXT}{k:Nat}{f C:Addr}{fd:FuncData}{ps ks:List Str}{sp:Sp}{E:XK}{x m:Str}{p pos apos kpos:Pos}{e o:Expr}{es:List Expr}{kws:List Keyword}{te ta:TE}{t tk:TA}{nm:Option Str}
theorem v0:PK X [] i0:=λ_ _ _ _ H Q I h=>wpAny_evalAll_nil ⟨[],H,I,.nil,h⟩
theorem qS (ha:PE X e te) (hr:PK X kws t):PK X (⟨nm,e,kpos⟩::kws) (cF te t):=by
 intro pos pins s σ H Q I h
 show wpAny _ _ (evalAll ((do let v <- eval e X.env;standAt pos;pure v)::(backToKw pos (keywordEach kws X.env)).map (·.2))) _ _ s
 refine wpAny_evalAll_cons (zB0 (thn (ha pins s σ H _ I h) λu s1 ⟨x,H1,I1,r1,q1⟩=>zB0 (wpAny_standAt (zP0 ?_))))
 exact thn (hr pos pins s1 σ H1 _ I1 q1) λus s2 ⟨xs,H2,I2,r2,q2⟩=>⟨x::xs,H2,I2,.cons r1 r2,q2⟩
variable {g:List Value->List Value->List Value}{gV:List V->List V->List V}
end
structure FnScope (N P:List Str) (sc:Scope):Prop where
 kind:sc.kind=.function
 co:sc.isCoroutine=false
 gen:sc.isGenerator=false
 nd:N.Nodup
 pre:N.take P.length=P
 par:∀x∈P,sc.names.lookup x=some .local\/sc.names.lookup x=some .cell
 nofree:∀y∈sc.names,y.2≠.free
theorem lD {kindOf:Str->Option NameKind}{x:Str}:∀{binds:List (Str × Value)}{m:Str->Option Value},(∀v,(x,v)∉binds)->bindL kindOf binds m x=m x
 | [],_,_=>rfl
 | (n,v)::r,m,h=>by
  unfold bindL
  rw [lD λw hw=>h w (List.mem_cons_of_mem _ hw)]
  split
  ·have:x≠n:=by rintro rfl;exact h v List.mem_cons_self
   simp [this]
  ·rfl
theorem lF {kindOf:Str->Option NameKind}{x:Str}:∀{binds:List (Str × Value)}{m:Str->Option Value},(∀v,(x,v)∉binds)->bindC kindOf binds m x=m x
 | [],_,_=>rfl
 | (n,v)::r,m,h=>by
  unfold bindC
  rw [lF λw hw=>h w (List.mem_cons_of_mem _ hw)]
  split
  ·rfl
  ·have:x≠n:=by rintro rfl;exact h v List.mem_cons_self
   simp [this]
theorem lE {kindOf:Str->Option NameKind}{x:Str}{v:Value}:∀{P:List Str}{vs:List Value}{i:Nat}{m:Str->Option Value},P.Nodup->P[i]?=some x->vs[i]?=some v->kindOf x=some .local->
  bindL kindOf (P.zip vs) m x=some v
 | [],_,_,_,_,h,_,_=>by simp at h
 | _::_,[],_,_,_,_,h,_=>by simp at h
 | p::P,w::vs,0,m,nd,h1,h2,hk=>by
  simp at h1 h2;subst h1;subst h2
  show bindL kindOf ((p,w)::P.zip vs) m p=_
  unfold bindL
  rw [lD λv hv=>(List.nodup_cons.mp nd).1 (List.of_mem_zip hv).1,if_pos hk]
  simp
 | p::P,w::vs,i+1,m,nd,h1,h2,hk=>by
  show bindL kindOf ((p,w)::P.zip vs) m x=_
  unfold bindL
  exact lE (i:=i) (List.nodup_cons.mp nd).2 (by simpa using h1) (by simpa using h2) hk
theorem lG {kindOf:Str->Option NameKind}{x:Str}{v:Value}:∀{P:List Str}{vs:List Value}{i:Nat}{m:Str->Option Value},P.Nodup->P[i]?=some x->vs[i]?=some v->kindOf x≠some .local->
  bindC kindOf (P.zip vs) m x=some v
 | [],_,_,_,_,h,_,_=>by simp at h
 | _::_,[],_,_,_,_,h,_=>by simp at h
 | p::P,w::vs,0,m,nd,h1,h2,hk=>by
  simp at h1 h2;subst h1;subst h2
  show bindC kindOf ((p,w)::P.zip vs) m p=_
  unfold bindC
  rw [lF λv hv=>(List.nodup_cons.mp nd).1 (List.of_mem_zip hv).1,if_neg hk]
  simp
 | p::P,w::vs,i+1,m,nd,h1,h2,hk=>by
  show bindC kindOf ((p,w)::P.zip vs) m x=_
  unfold bindC
  exact lG (i:=i) (List.nodup_cons.mp nd).2 (by simpa using h1) (by simpa using h2) hk
noncomputable def db (N:List Str) (vs:List V):St:=vs.map some++List.replicate (N.length - vs.length) none
noncomputable def jX (CX:CXT) (P:Program) (w:World) (K:PySem.W.Frag) (mg:Str->Option Value) (base:Heap) (N:List Str) (qual:Str) (scope:Scope) (f:Addr) (cd:Value) (A:Around) (outer:List Env) (s:Shared) (H:Hp) (E:XK):Cx where
 prog:=P
 w:=w
 K:=K
 mg:=mg
 base:=base
 A:=A.deeper (envOfC qual scope s.heap.objs.size f cd)
 N:=N
 s₀:=s
 H₀:=H
 env:=envOfC qual scope s.heap.objs.size f cd
 outer:=outer
 stack:=envOfC qual scope s.heap.objs.size f cd::outer
 ex:=[]
 calm:=true
 fn:=λ_=>true
 pn:=[]
 xe:=λe s'=>wpAny (model P w) (A.deeper (envOfC qual scope s.heap.objs.size f cd)) (leaving (envOfC qual scope s.heap.objs.size f cd) e) (λ_ s''=>CX outer H s E e s'') (λe' s''=>CX outer H s E e' s'') s'
theorem oP {sc:Scope}{n:Nat}{x:Str} (h:sc.names.lookup x=some .cell):∃c,(cellsFrom n sc.names []).lookup x=some c:=by
 have q:=PySem.W.cellsFrom_some sc.names n [] (.inl h)
 exact Option.isSome_iff_exists.mp q
theorem lq {CX:CXT}{P:Program}{w:World}{K:W.Frag}{mg:Str->Option Value}{base:Heap}{N ps:List Str}{qual:Str}{scope:Scope}{f:Addr}{cd:Value}{A:Around}{outer:List Env}{s s1:Shared}{H:Hp}{E:XK}{us:List Value}{vs:List V}
  (S:FnScope N ps scope) (hd:A.handled=none) (e0:Env0 P w K mg base A outer s H) (hl:vs.length=ps.length) (r:aM vs us)
  (x:InCallC s s.heap.objs.size (bindL (envOfC qual scope s.heap.objs.size f cd).kindOf (ps.zip us) λ_=>none) (cellsFrom (s.heap.objs.size+1) scope.names []) (bindC (envOfC qual scope s.heap.objs.size f cd).kindOf (ps.zip us) λ_=>none) s1) :
  Inv (jX CX P w K mg base N qual scope f cd A outer s H E) [] (db N vs) H s1:=by
 have hpl:ps.length<=N.length:=by have:=congrArg List.length S.pre;rw [List.length_take]at this;omega
 obtain⟨h1,tk,rfl,hk⟩:=x.done
 have noA:∀b:Addr,b∉(jX CX P w K mg base N qual scope f cd A outer s H E).ex:=λb z=>absurd (show b∈([]:List Addr) from z) (by simp)
 refine⟨⟨e0.mod,S.kind,rfl,rfl,Nat.le_refl _,λy z c h1 h2=>?_,λy hy=>?_,λy c _ h=>?_,λ_=>hd,Around.frames_deeper e0.frames,.inr ⟨rfl,rfl⟩,λb z=>absurd z (noA b),e0.bs,e0.bsz,λb _ _=>noA b,λb z=>absurd z (noA b),e0.funs,e0.frf⟩,
  rfl,e0.bare,Un.kept hk,⟨_,x.toInCall.ns,λi y v h1 h2 h3=>?_⟩,λy c h=>⟨_,x.cell y c h⟩,e0.hok.fresh (Nat.le_refl _),λy c h=>?_,λp hp=>absurd (show p∈([]:List (Addr × Obj)) from hp) (by simp),e0.hok.kept hk,?_⟩
 ·exact name_of_addr x.apart (PySem.mem_of_lookup h1) (PySem.mem_of_lookup h2)
 ·have hy:scope.names.lookup y=some .cell\/scope.names.lookup y=some .free:=hy
  rcases hy with hy | hy
  ·exact oP hy
  ·exact absurd rfl (S.nofree _ (PySem.mem_of_lookup hy))
 ·exact Nat.le_of_lt (x.above y c (PySem.mem_of_lookup h))
 ·have hi:i < vs.length:=by
   unfold db at h2
   by_cases hi:i < vs.length
   ·exact hi
   ·rw [List.getElem?_append_right (by simpa using hi)]at h2
    rw [List.getElem?_replicate]at h2
    split at h2 <;> cases h2
  have ha:vs[i]?=some v:=by
   unfold db at h2
   rw [List.getElem?_append_left (by simpa using hi),List.getElem?_map]at h2
   cases e:vs[i]? with
   | none=>rw [e]at h2;cases h2
   | some a=>rw [e]at h2;cases h2;rfl
  obtain⟨u,hu,rv⟩:=r.get ha
  have hp:ps[i]?=some y:=by
   rw [<- S.pre,List.getElem?_take_of_lt ‹1›];exact h1
  have ndP:ps.Nodup:=by rw [<- S.pre];exact S.nd.sublist (List.take_sublist _ _)
  refine⟨u,rv,?_⟩
  rcases S.par y (List.mem_of_getElem? hp) with k | k
  ·exact .inl ⟨k,lE ndP hp hu k⟩
  ·obtain⟨c,e⟩:=oP (n:=s.heap.objs.size+1) k
   refine .inr ⟨.inl k,c,e,?_⟩
   have q:=x.cell y c e
   rw [lG ndP hp hu (by show scope.names.lookup y≠_;rw [k];decide)]at q
   exact q
 ·exact e0.hok.fresh (Nat.le_of_lt (x.above y c (PySem.mem_of_lookup h)))
 ·unfold db
  show _=N.length
  rw [List.length_append,List.length_map,List.length_replicate]
  omega
theorem C6 {CX:CXT}{P:Program}{w:World}{K:W.Frag}{mg:Str->Option Value}{base:Heap}{k:Nat}{f:Addr}{name qual:Str}{params:Arguments}{body:List Stmt}{scope:Scope}{dV kV doc pm cdv ct oc:Value}{an od:Option Addr}
  {osl:Array (Option Value)}{N ps:List Str}{sp:Sp} (lk:K.lookup f=some ⟨oc,od,.func (PySem.W.fnOf name qual params body scope dV kV doc pm an cdv ct),osl⟩) (hcd:PySem.W.codeIn K cdv qual=true) (S:FnScope N ps scope)
  (len:∀vs H Q E,sp vs H Q E->vs.length=ps.length)
  (hbody:∀(A:Around) (outer:List Env) (s:Shared) (H:Hp) (vs:List V) (Q:VK) (E:XK),Room k (A.deeper (envOfC qual scope s.heap.objs.size f cdv))->sp vs H Q E->
   ∃t,PSs (jX CX P w K mg base N qual scope f cdv A outer s H E) body t/\t { nx:=λ_ H'=>Q .non H',rt:=Q } (db N vs) H) :
  FnOk P w K mg base CX (k+1) f (PySem.W.fnOf name qual params body scope dV kV doc pm an cdv ct) ps sp:=by
 refine⟨len,λA outer s H args us vs Q E hr e0 hb r hsp=>?_⟩
 have hl:=len _ _ _ _ hsp
 have KX:K.In s.heap:=e0.mod.kin.keeps λb o e=>(e0.bs b o e).1
 have lim:s.heap.NoLimit:=e0.mod.nolimit.keeps λb o e=>(e0.bs b o e).1
 have hkind:∀y∈ps.zip us,scope.names.lookup y.1=some .local\/(scope.names.lookup y.1=some .cell/\((cellsFrom (s.heap.objs.size+1) scope.names []).lookup y.1).isSome=true):=λ⟨n,v⟩ hy=>by
  rcases S.par n (List.of_mem_zip hy).1 with q | q
  ·exact .inl q
  ·exact .inr ⟨q,PySem.W.cellsFrom_some _ _ _ (.inl q)⟩
 refine codeAny_call_function hr.depth (KX _ _ lk) rfl S.co S.gen rfl (PySem.W.codeRec_of KX hcd) (hb _ _ _ _ ?_)
 refine wpAny_newFunctionEnv_cells S.kind hkind λenv he s1 x=>?_
 subst he
 refine⟨lim.keeps x.toInCall.keep,codeAny_func ?_⟩
 obtain⟨t,ht,hq⟩:=hbody A outer s H vs Q E (hr.deeper _) hsp
 have I:Inv (jX CX P w K mg base N qual scope f cdv A outer s H E) [] (db N vs) H s1:=lq S hr.hd e0 hl r x
 refine wpAny_mono (ht [] s1 (db N vs) H _ I hq) (λfl s' hs=>?_) λe s' hs=>hs
 have fin:∀{σ':St}{H':Hp}{v:V}{u:Value},Inv (jX CX P w K mg base N qual scope f cdv A outer s H E) [] σ' H' s'->aV v u->Q v H'->CE outer P w H s Q u s':=
  λ{σ' H' v u} J rv q=>⟨v,H',J.os,J.bare,J.base,J.hok,rv,q⟩
 cases fl with
 | ret u=>
  obtain⟨v,σ',H',J,rv,q⟩:=hs
  exact fin J rv q
 | next=>
  obtain⟨σ',H',J,q⟩:=hs
  exact fin (v:=V.non) (u:=Value.none) J rfl q
 | brk=>
  obtain⟨_,_,_,q⟩:=hs
  exact False.elim q
 | cont=>
  obtain⟨_,_,_,q⟩:=hs
  exact False.elim q
section
variable {X:Cx}{x:Str}{p pos:Pos}{e:Expr}{es:List Expr}{t:TA}{id T:String}{r:List V->Hp->VK->Prop}
noncomputable def tCB (r:List V->Hp->VK->Prop) (t:TA):TE:=λσ H Q=>t σ H λvs H1=>r vs H1 Q
theorem aG (hc:cD X (.builtin id) r) (hg:Gl X x) (hm:X.mg x=none) (hv:bootBuiltins x=some (.builtin id)) (ha:PA X (e::es) t) (hn:x≠"__name__":=by decide) (hdb:(x == ("__debug__" : Str))=false:=by decide)
  (he:starEach (e::es) X.env=(false,eval e X.env)::starEach es X.env:=by rfl) (hpl:(backTo pos (starEach es X.env)).any (·.1)=false:=by rfl):PE X (.Call (.Name x p) (e::es) [] pos) (tCB r t):=by
 intro pins s σ H Q I h
 refine wpAny_Call_Name_kw (gt I hg hm hv ?_ hn hdb)
 exact PyProof.Rows.callWith_builtin1 (thn (ha pos pins s σ H _ I h) λus s1 ⟨vs,H1,I1,r1,q1⟩=>hc pins s1 σ H1 vs us Q I1 r1 q1) he hpl
theorem aQ (hc:cD X (.type T) r) (hg:Gl X x) (hm:X.mg x=none) (hv:bootBuiltins x=some (.type T)) (ha:PA X (e::es) t) (hn:x≠"__name__":=by decide) (hdb:(x == ("__debug__" : Str))=false:=by decide)
  (he:starEach (e::es) X.env=(false,eval e X.env)::starEach es X.env:=by rfl) (hpl:(backTo pos (starEach es X.env)).any (·.1)=false:=by rfl):PE X (.Call (.Name x p) (e::es) [] pos) (tCB r t):=by
 intro pins s σ H Q I h
 refine wpAny_Call_Name_kw (gt I hg hm hv ?_ hn hdb)
 exact PyProof.Rows.callWith_type1 (thn (ha pos pins s σ H _ I h) λus s1 ⟨vs,H1,I1,r1,q1⟩=>hc pins s1 σ H1 vs us Q I1 r1 q1) he hpl
end
end L2
local macro_rules|`(tactic|walk_at "d")=>`(tactic|dsimp only [L2.aF,List.set_cons_zero,List.set_cons_succ])
namespace HT
open PySem PyProof.Rows
section
open PySem.SeqAt
open PySem.AutoSeq1 (wpAny_loadPart')
open PySem.MeetsSeq PySem.MeetsSeq2 PySem.MeetsSeq3
end
section
variable {prog:Program}{w:World}{A:Around}{E:Value->Shared->Prop}{s:Shared}
noncomputable def sIx (n d:Nat):Option Int->Nat
 | none=>d
 | some v=>if v < 0 then (v+(n:Int)).toNat else min v.toNat n
theorem sIx_nat (n d k:Nat):sIx n d (some (k:Int))=min k n:=by
 show (if (k:Int) < 0 then ((k:Int)+(n:Int)).toNat else min (k:Int).toNat n)=min k n
 rw [if_neg ‹1›,Int.toNat_natCast]
theorem Ab (n d:Nat) (hd:d<=n) (o:Option Int):sIx n d o<=n:=by
 cases o with
 | none=>exact hd
 | some v=>
  show (if v < 0 then (v+(n:Int)).toNat else min v.toNat n)<=n
  by_cases hv:v < 0
  ·rw [if_pos hv];omega
  ·rw [if_neg hv];exact Nat.min_le_right _ _
theorem rD (v:Int) (n d:Nat):(if v < 0 then max (v+(n:Int)) 0 else min v (n:Int))=((sIx n d (some v):Nat):Int):=by
 show (if v < 0 then max (v+(n:Int)) 0 else min v (n:Int))=(((if v < 0 then (v+(n:Int)).toNat else min v.toNat n):Nat):Int)
 by_cases hv:v < 0
 ·simp only [if_pos hv];omega
 ·simp only [if_neg hv];omega
theorem qw (lo hi:Option Int) (n:Nat):Builtin.Slice.sliceAdjust lo hi 1 (n:Int)=(((sIx n 0 lo:Nat):Int),((sIx n n hi:Nat):Int)):=by
 have h1:¬((1:Int) < 0):=by omega
 unfold Builtin.Slice.sliceAdjust
 simp only [h1,if_false]
 refine Prod.ext ?_ ?_
 ·cases lo with
  | none=>rfl
  | some v=>exact rD v n 0
 ·cases hi with
  | none=>rfl
  | some v=>exact rD v n n
theorem pS (i j:Nat):Builtin.Slice.slicePlaces (i:Int) (j:Int) 1=j - i:=by
 unfold Builtin.Slice.slicePlaces
 have h1:(1:Int) > 0:=by omega
 simp only [h1,if_true,Int.ediv_one]
 split <;> omega
theorem jq {v:Value}{o:Option Int}{Q:Option Int->Shared->Prop} (p:IsPart v o) (h:Q o s):wpAny (model prog w) A (Builtin.Slice.slicePartIndex v) Q E s:=by
 cases p with
 | none=>exact slicePart_none h
 | int i t=>exact slicePart_int h
theorem i7 {sl:Addr}{vl vu:Value}{lo hi:Option Int}{n:Nat}{Q:Int × Int × Nat->Shared->Prop} (hs:s.heap.IsSliceOf sl vl vu .none) (pl:IsPart vl lo) (pu:IsPart vu hi)
  (h:Q (((sIx n 0 lo:Nat):Int),1,sIx n n hi - sIx n 0 lo) s):wpAny (model prog w) A (Builtin.Slice.sliceApplied (.ref sl) (pure (n:Int))) Q E s:=by
 obtain⟨os,hos,hcs,hds⟩:=id hs
 unfold Builtin.Slice.sliceApplied Builtin.Slice.sliceFields
 refine zB0 (zB0 (wpAny_field hos hds (x:=vl) rfl (zB0 (wpAny_field hos hds (x:=vu) rfl (zB0 (wpAny_field hos hds (x:=.none) rfl (zP0 ?_)))))))
 refine zB0 (slicePart_none ?_)
 show wpAny _ _ (if ((1:Int) == 0)=true then _ else _) _ _ s
 rw [if_neg (by decide)]
 refine zB0 (jq pl (zB0 (jq pu (zB0 (zP0 ?_)))))
 show wpAny _ _ (match Builtin.Slice.sliceAdjust lo hi 1 (n:Int) with | (lo,hi)=>pure (lo,(1:Int),Builtin.Slice.slicePlaces lo hi 1)) _ _ s
 rw [qw lo hi n]
 show wpAny _ _ (pure (((sIx n 0 lo:Nat):Int),(1:Int),Builtin.Slice.slicePlaces ((sIx n 0 lo:Nat):Int) ((sIx n n hi:Nat):Int) 1)) _ _ s
 rw [pS]
 exact zP0 h
theorem va (xs:Array Value) (i k:Nat):((List.range k).filterMap λ(m:Nat)=>xs[((i:Int)+(m:Int) * 1).toNat]?).toArray=((xs.toList.drop i).take k).toArray:=by
 have e:(λ(m:Nat)=>xs[((i:Int)+(m:Int) * 1).toNat]?)=λm=>xs[i+m]?:=by
  funext m
  have:((i:Int)+(m:Int) * 1).toNat=i+m:=by omega
  rw [this]
 rw [e]
 have:=pick_run xs i k
 rw [List.filterMap_map]at this
 have e2:((λx=>xs[x]?) ∘ λx=>i+x)=λm=>xs[i+m]?:=rfl
 rw [e2]at this
 rw [this]
theorem getItem_tuple_cut {t sl:Addr}{items:Array Value}{vl vu:Value}{lo hi:Option Int}{Q:Value->Shared->Prop} (ht:IsTup s.heap t items) (hs:s.heap.IsSliceOf sl vl vu .none) (pl:IsPart vl lo) (pu:IsPart vu hi)
  (hw:¬(sIx items.size 0 lo=0/\sIx items.size items.size hi=items.size))
  (h:Q (.ref s.heap.objs.size) { s with heap:=s.heap.push { cls:=.type "tuple", data:=.seq ((items.toList.drop (sIx items.size 0 lo)).take (sIx items.size items.size hi - sIx items.size 0 lo)).toArray } })
  (hsz:items.size<=sizeLine):wpAny (model prog w) A (getItem (.ref t) (.ref sl)) Q E s:=by
 have htake:sizeOk (.seq ((items.toList.drop (sIx items.size 0 lo)).take (sIx items.size items.size hi - sIx items.size 0 lo)).toArray):=by
  show ((items.toList.drop (sIx items.size 0 lo)).take (sIx items.size items.size hi - sIx items.size 0 lo)).toArray.size<=sizeLine
  rw [List.size_toArray,List.length_take,List.length_drop,Array.length_toList]
  omega
 have hj:sIx items.size items.size hi<=items.size:=Ab _ _ (Nat.le_refl _) hi
 obtain⟨os,hos,hcs,hds⟩:=id hs
 have hTs:s.TypeIs (.ref sl) "slice":=⟨os,hos,hcs⟩
 unfold getItem
 try with_reducible refine wpAny_holding ?_
 first | refine zB0 (zP0 ?_) | skip
 refine zB0 (wpAny_sequenceKey ht.typeIs (by decide) ?_)
 refine zB0 (wpAny_callSpecial?_slot (name:=‹"__getitem__"›) ht.typeIs PyProof.Rows.slot_tuple_getitem
  (wpAny_call_entry PyProof.Rows.slot_tuple_getitem ht.typeIs entry_tuple_getitem ?_ (args_tuple_getitem _ _)))
 show wpAny _ _ (Builtin.Tuple.tupleItemsOf (.ref t) >>= _) _ _ s
 refine zB0 (tupleItemsOf_ ht ?_)
 refine zB0 (wpAny_typeOf hTs ?_)
 rw [if_pos (by decide)]
 refine zB0 (i7 hs pl pu ?_)
 have hno:¬((((sIx items.size 0 lo:Nat):Int) == 0 && (1:Int) == 1 && (sIx items.size items.size hi - sIx items.size 0 lo) == items.size)=true):=by
  intro q
  rw [Bool.and_eq_true,Bool.and_eq_true]at q
  have q1:((sIx items.size 0 lo:Nat):Int)=0:=eq_of_beq q.1.1
  have q2:sIx items.size items.size hi - sIx items.size 0 lo=items.size:=eq_of_beq q.2
  exact hw ⟨by omega,by omega⟩
 show wpAny _ _ (if (((sIx items.size 0 lo:Nat):Int) == 0 && (1:Int) == 1 && (sIx items.size items.size hi - sIx items.size 0 lo) == items.size)=true then _ else _) _ _ s
 rw [if_neg hno,va]
 first
  | exact zB0 (m:=Builtin.Tuple.tupleExact _) (wpAny_newObj_type (zP0 ⟨_,rfl,zP0 h⟩) htake)
  | exact zB0 (m:=Builtin.Tuple.tupleExact _) (wpAny_newObj_type (zB0 (zP0 (zP0 ⟨_,rfl,zP0 h⟩))) htake)
  | exact zB0 (zB0 (m:=Builtin.Tuple.tupleExact _) (wpAny_newObj_type (zP0 (zP0 ⟨_,rfl,zP0 h⟩)) htake))
  | exact zB0 (zB0 (m:=Builtin.Tuple.tupleExact _) (wpAny_newObj_type (zP0 ⟨_,rfl,zP0 h⟩) htake))
end
end HT
namespace L2
open PySem PySem.Spec PyProof.Rows
noncomputable abbrev TO:=St->Hp->(Option Int->Hp->Prop)->Prop
def PO (X:Cx) (e:Option Expr) (t:TO):Prop:=
 ∀(pins:List (Addr × Obj)) (s:Shared) (σ:St) (H:Hp) (Q:Option Int->Hp->Prop),Inv X pins σ H s->t σ H Q->
  wpAny (model X.prog X.w) X.A (evalPart e X.env) (λu s'=>∃o H',Inv X pins σ H' s'/\IsPart u o/\Q o H') X.xe s
noncomputable def xb:TO:=λ_ H Q=>Q none H
noncomputable def Bw (t:TE):TO:=λσ H Q=>t σ H λx H1=>∃i,x=.int i/\Q (some i) H1
section
variable {X:Cx}{e:Expr}{te:TE}{lo hi:Option Expr}{tl th:TO}{pos p2:Pos}
theorem fE:PO X none xb:=by
 intro pins s σ H Q I h
 rw [evalPart_none]
 exact zP0 ⟨none,H,I,.none,h⟩
theorem fB (h:PE X e te):PO X (some e) (Bw te):=by
 intro pins s σ H Q I hw
 rw [evalPart_some]
 refine thn (h pins s σ H _ I hw) λu s1 ⟨x,H1,I1,r1,q1⟩=>?_
 obtain⟨i,rfl,q⟩:=q1
 obtain⟨t,rfl⟩:=r1
 exact⟨some i,H1,I1,.int i t,q⟩
def SlR (X:Cx) (r:V->Option Int->Option Int->Hp->VK->Prop):Prop:=
 ∀(pins:List (Addr × Obj)) (s:Shared) (σ:St) (H:Hp) (x:V) (v vl vu:Value) (lo hi:Option Int) (sl:Addr) (Q:VK),Inv X pins σ H s->aV x v->s.heap.IsSliceOf sl vl vu .none->IsPart vl lo->IsPart vu hi->r x lo hi H Q->
  ∃T id,typeLookup (.type T) "__getitem__" = pure (some (.builtin id))/\s.TypeIs v T/\wpAny (model X.prog X.w) X.A (getItem v (.ref sl)) (EP X pins σ Q) X.xe s
noncomputable def tSl (r:V->Option Int->Option Int->Hp->VK->Prop) (te:TE) (tl th:TO):TE:=λσ H Q=>te σ H λx H1=>tl σ H1 λl H2=>th σ H2 λu H3=>r x l u H3 Q
theorem dX {r:V->Option Int->Option Int->Hp->VK->Prop} (hr:SlR X r) (he:PE X e te) (hl:PO X lo tl) (hu:PO X hi th):PE X (.Subscript e (.Slice lo hi none p2) pos) (tSl r te tl th):=by
 intro pins s σ H Q I h
 refine Subscript_ (thn (he pins s σ H _ I h) λv s1 ⟨x,H1,I1,r1,q1⟩=>?_)
 refine wpAny_Slice (thn (hl pins s1 σ H1 _ I1 q1) λvl s2 ⟨l,H2,I2,pl,q2⟩=>thn (hu pins s2 σ H2 _ I2 q2) λvu s3 ⟨u,H3,I3,pu,q3⟩=>?_)
 rw [evalPart_none]
 refine zP0 ?_
 have I4:Inv X pins σ H3 { s3 with heap:=s3.heap.push { cls:=.type "slice", data:=.fields #[vl,vu,.none] } }:=I3.kept (t':=s3.toks) λb ob q=>zH0 _ q
 obtain⟨T,id,hT,ht,hg⟩:=hr pins { s3 with heap:=s3.heap.push { cls:=.type "slice", data:=.fields #[vl,vu,.none] } } σ H3 x v vl vu l u s3.heap.objs.size Q I4 r1 (Heap.IsSliceOf.new ..) pl pu q3
 show wpAny (model X.prog X.w) X.A (subscriptTail e (.Slice lo hi none p2) v (.ref s3.heap.objs.size)) (EP X pins σ Q) X.xe { s3 with heap:=s3.heap.push { cls:=.type "slice", data:=.fields #[vl,vu,.none] } }
 exact tail_any (ops:=[.ref s3.heap.objs.size,v]) ht hT hg (by with_unfolding_all rfl)
noncomputable def dH (xs:List V) (lo hi:Option Int):List V:=(xs.drop (HT.sIx xs.length 0 lo)).take (HT.sIx xs.length xs.length hi - HT.sIx xs.length 0 lo)
theorem dP (xs:List V) (lo hi:Option Int):(dH xs lo hi).length<=xs.length:=by
 unfold dH
 rw [List.length_take,List.length_drop]
 omega
noncomputable def Cz (K:PySem.W.Frag):V->Option Int->Option Int->Hp->VK->Prop:=λx lo hi H Q=>∃a xs,x=.ref a/\SqT K H a xs/\
 ¬(HT.sIx xs.length 0 lo=0/\HT.sIx xs.length xs.length hi=xs.length)/\∀p,H p=none->Q (.ref p) (upd H p (.tup (dH xs lo hi)))
theorem zS:SlR X (Cz X.K):=by
 intro pins s σ H x v vl vu lo hi sl Q I rx hs pl pu h
 obtain⟨a,xs,rfl,hx,hw,q⟩:=h
 cases rx
 obtain⟨its,r,ht,hz⟩:=I.tuple hx
 have hlen:its.toArray.size=xs.length:=by rw [List.size_toArray];exact r.length.symm
 refine⟨"tuple", _,PyProof.Rows.slot_tuple_getitem.lookup,ht.typeIs,?_⟩
 refine HT.getItem_tuple_cut ht hs pl pu (by rw [hlen];exact hw) ?_ (by rw [hlen];exact hz)
 rw [hlen]
 refine⟨.ref s.heap.objs.size,_,I.laid (t':=s.toks) (o:=.tup (dH xs lo hi)) (λb ob q=>zH0 _ q) (Nat.le_refl _) ?_,rfl,q _ (I.hok.fresh (Nat.le_refl _))⟩
 exact⟨Nat.le_trans (dP xs lo hi) hz,_,(r.drop (HT.sIx xs.length 0 lo)).take (HT.sIx xs.length xs.length hi - HT.sIx xs.length 0 lo),IsTup.new _ _⟩
end
noncomputable def ixN (n:Nat) (i:Int):Option Nat:=if 0<=i then (if i < n then some i.toNat else none) else if -(n:Int)<=i then some (i+n).toNat else none
noncomputable def atI {α:Type} (xs:List α) (i:Int):Option α:=(ixN xs.length i).bind λj=>xs[j]?
theorem r9 {n:Nat}{i:Int}{j:Nat} (h:ixN n i=some j):seqIndex? i n=some j/\j < n/\-(n:Int)<=i/\i < n:=by
 unfold ixN at h
 by_cases h0:0<=i
 ·rw [if_pos h0]at h
  by_cases h1:i < n
  ·rw [if_pos h1]at h
   have e:i.toNat=j:=Option.some.inj h
   exact⟨by rw [seqIndex_of h0 h1,e],by omega,by omega,h1⟩
  ·rw [if_neg h1]at h;cases h
 ·rw [if_neg h0]at h
  by_cases h1 : -(n:Int)<=i
  ·rw [if_pos h1]at h
   have e:(i+n).toNat=j:=Option.some.inj h
   exact⟨by rw [seqIndex_neg ‹1› h1,e],by omega,h1,by omega⟩
  ·rw [if_neg h1]at h;cases h
theorem mS {α:Type}{xs:List α}{i:Int}{v:α} (h:atI xs i=some v):∃j,seqIndex? i xs.length=some j/\xs[j]?=some v/\j < xs.length/\-(xs.length:Int)<=i/\i < xs.length:=by
 unfold atI at h
 cases e:ixN xs.length i with
 | none=>rw [e]at h;cases h
 | some j=>
  rw [e]at h
  obtain⟨h1,h2,h3,h4⟩:=r9 e
  exact⟨j,h1,h,h2,h3,h4⟩
theorem fM {α:Type}{xs:List α}{j:Nat}{v:α} (h:xs[j]?=some v):atI xs (j:Int)=some v:=by
 have hj:j < xs.length:=(List.getElem?_eq_some_iff.mp h).1
 have e:ixN xs.length (j:Int)=some j:=by
  unfold ixN
  rw [if_pos ‹1›,if_pos ‹1›];simp
 unfold atI;rw [e];exact h
def yA (b:Expr):Prop:=∀o i,subscripted b false o i=operate [o,i] (getItem o i)
def IxR (X:Cx) (r:R2):Prop:=
 ∀(value slice:Expr) (pins:List (Addr × Obj)) (s:Shared) (σ:St) (H:Hp) (x y:V) (v u:Value) (Q:VK),Inv X pins σ H s->aV x v->aV y u->r x y H Q->
  subscripted slice false v u=operate [v,u] (getItem v u)->wpAny (model X.prog X.w) X.A (subscriptTail value slice v u) (EP X pins σ Q) X.xe s
def MtR (X:Cx) (id:String) (r:V->List V->Hp->VK->Prop):Prop:=
 ∀(pins:List (Addr × Obj)) (s:Shared) (σ:St) (H:Hp) (x:V) (xs:List V) (v:Value) (us:List Value) (Q:VK),Inv X pins σ H s->aV x v->aM xs us->r x xs H Q->
  wpAny (model X.prog X.w) X.A (call (.builtin id) (v::us)) (EP X pins σ Q) X.xe s
section
variable {X:Cx}{a b:Expr}{ta tb:TE}{pos:Pos}
theorem bn {r:R2} (hr:IxR X r) (ha:PE X a ta) (hb:PE X b tb) (hs:yA b):PE X (.Subscript a b pos) (tOp r ta tb):=by
 intro pins s σ H Q I h
 exact Subscript_ (Bg ha hb I h λv u s2 x y H2 I2 rx ry q=>hr a b pins s2 σ H2 x y v u Q I2 rx ry q (hs _ _))
inductive Ao (K:PySem.W.Frag) (x:V) (y:V) (H:Hp) (Q:VK):Prop
 | mk (p xs i v) (h1:x=.ref p) (h2:y=.int i) (h3:SqL K H p xs) (h4:atI xs i=some v) (h5:Q v H):Ao K x y H Q
inductive BL (K:PySem.W.Frag) (x:V) (y:V) (H:Hp) (Q:VK):Prop
 | mk (p xs i v) (h1:x=.ref p) (h2:y=.int i) (h3:SqT K H p xs) (h4:atI xs i=some v) (h5:Q v H):BL K x y H Q
inductive BM (x:V) (y:V) (H:Hp) (Q:VK):Prop
 | mk (z i c) (h1:x=.str z) (h2:y=.int i) (h3:z.length<=sizeLine) (h4:atI z.cps.toList i=some c) (h5:Q (.str ⟨#[c]⟩) H):BM x y H Q
theorem br:IxR X (Ao X.K):=by
 intro value slice pins s σ H x y v u Q I rx ry h hs
 obtain⟨p,xs,i,z,rfl,rfl,hq,he,q⟩:=h
 cases rx
 obtain⟨t,rfl⟩:=ry
 obtain⟨its,r,pl,hz⟩:=I.list hq
 obtain⟨j,h1,h2,h3,h4,h5⟩:=mS he
 obtain⟨w,ew,rw'⟩:=r.get h2
 have hl:=r.length
 have hn:=ip
 have fin:EP X pins σ Q w s:=⟨z,H,I,rw',q⟩
 by_cases h0:0<=i
 ·have hj:i.toNat=j:=by
   rw [seqIndex_of h0 h5]at h1
   exact Option.some.inj h1
  exact item_listR pl.isList h0 ‹1› (by rw [hj];simpa using ew) fin hs
 ·have hj:(i+(its.toArray.size:Int)).toNat=j:=by
   rw [seqIndex_neg ‹1› h4]at h1
   rw [List.size_toArray,<- hl]
   exact Option.some.inj h1
  exact subscriptTail_builtinR (x:=w) pl.isList.typeIs slot_list_getitem.lookup
   (wpAny_getItem_list_neg (Q:=λr s'=>r=w/\EP X pins σ Q r s') pl.isList ‹1› (by rw [List.size_toArray] <;> omega) ‹1› (by rw [hj];simpa using ew) ⟨rfl,fin⟩) hs
theorem cw:IxR X (BL X.K):=by
 intro value slice pins s σ H x y v u Q I rx ry h hs
 obtain⟨p,xs,i,z,rfl,rfl,hq,he,q⟩:=h
 cases rx
 obtain⟨t,rfl⟩:=ry
 obtain⟨its,r,pl,hz⟩:=I.tuple hq
 obtain⟨j,h1,h2,h3,h4,h5⟩:=mS he
 obtain⟨w,ew,rw'⟩:=r.get h2
 have hl:=r.length
 have hn:=ip
 have fin:EP X pins σ Q w s:=⟨z,H,I,rw',q⟩
 exact subscriptTail_builtinR (x:=w) pl.typeIs slot_tuple_getitem.lookup
  (getItem_tuple (j:=j) (Q:=λr s'=>r=w/\EP X pins σ Q r s') pl ‹1› ‹1› (by rw [List.size_toArray,<- hl];exact h1) (by simpa using ew) ⟨rfl,fin⟩) hs
theorem AU:IxR X BM:=by
 intro value slice pins s σ H x y v u Q I rx ry h hs
 obtain⟨z,i,c,rfl,rfl,hz,he,q⟩:=h
 obtain⟨t,rfl⟩:=rx
 obtain⟨t',rfl⟩:=ry
 obtain⟨j,h1,h2,h3,h4,h5⟩:=mS he
 have hl:z.cps.toList.length=z.length:=by simp [Str.length]
 rw [hl]at h1 h4 h5
 have hn:=ip
 exact tail_any (typeIs_str s z t) slot_str_getitem.lookup (getItem_str (c:=c) (by
  have e1:decide (i < -(2 ^ 63:Int))=false:=decide_eq_false ‹1›
  have e2:decide (i>=2 ^ 63)=false:=decide_eq_false ‹1›
  rw [e1,e2,Bool.or_false]) (by rw [h1];simpa using h2) ⟨.str ⟨#[c]⟩,H,I.tok _,⟨_,rfl⟩,q⟩) hs
theorem pY (its:List Value) (n j:Nat) (u:Value):Obj.mapSeq (·.setIfInBounds j u) { cls:=.type "list", data:=.seq its.toArray n }={ cls:=.type "list", data:=.seq (its.set j u).toArray n }:=by
 simp [Obj.mapSeq]
theorem Inv.lst {pins:List (Addr × Obj)}{σ:St}{H:Hp}{s:Shared}{p:Addr}{xs:List V} (I:Inv X pins σ H s) (h:H p=some (.lst xs)) :
  ∃(its:List Value) (n:Nat),aM xs its/\s.heap.get? p=some { cls:=.type "list", data:=.seq its.toArray n }/\xs.length<=sizeLine:=by
 obtain⟨z,its,n,r,e⟩:=I.hok p _ h
 exact⟨its,n,r,e,z⟩
theorem Inv.lstUpd {pins:List (Addr × Obj)}{σ:St}{H:Hp}{s:Shared}{p:Addr}{xs ys:List V}{its its':List Value}{n n':Nat}{f:Obj->Obj} (I:Inv X pins σ H s) (h:H p=some (.lst xs))
  (ho:s.heap.get? p=some { cls:=.type "list", data:=.seq its.toArray n }) (hf:f { cls:=.type "list", data:=.seq its.toArray n }={ cls:=.type "list", data:=.seq its'.toArray n' }) (r:aM ys its') (hz:ys.length<=sizeLine) (t:Nat) :
  Inv X pins σ (upd H p (.lst ys)) { s with heap:=s.heap.update p f,toks:=t }:=by
 have e:(s.heap.update p f).get? p=some { cls:=.type "list", data:=.seq its'.toArray n' }:=by
  rw [Heap.get?_update_self f ho (by rw [hf] <;> rfl),hf]
 refine I.write (x:=p) (e:=p) (by rw [h];trivial) (.inl rfl) (λb u hb q=>(Heap.get?_update_other _ _ (Ne.symm hb)).trans q) ⟨_,e⟩ ?_
 exact⟨hz,its',n',r,e⟩
noncomputable def BK:V->V->V->Hp->(Hp->Prop)->Prop:=λo i v H Q=>∃p xs k j,o=.ref p/\i=.int k/\H p=some (.lst xs)/\ixN xs.length k=some j/\Q (upd H p (.lst (xs.set j v)))
theorem nk:Ce X BK:=by
 intro pins s σ H o i v ov iv u Q I ro ri rv h
 obtain⟨p,xs,k,j,rfl,rfl,hp,hj,q⟩:=h
 cases ro
 obtain⟨t,rfl⟩:=ri
 obtain⟨its,n,r,ho,hz⟩:=I.lst hp
 obtain⟨h1,h2,h3,h4⟩:=r9 hj
 have hl:=r.length
 have hn:=ip
 have I':Inv X pins σ (upd H p (.lst (xs.set j v))) { s with heap:=s.heap.update p (Obj.mapSeq (·.setIfInBounds j u)) }:=
  I.lstUpd hp ho (pY its n j u) (r.set rv j) (by rw [List.length_set];exact hz) s.toks
 by_cases h0:0<=k
 ·have hk:k.toNat=j:=by
   rw [seqIndex_of h0 h4]at h1
   exact Option.some.inj h1
  exact PySem.W.ki_setAt ho h0 ‹1› (by rw [List.size_toArray,<- hl];exact h4) (by rw [hk];exact⟨_,I',q⟩)
 ·have hk:(k+(its.toArray.size:Int)).toNat=j:=by
   rw [seqIndex_neg ‹1› h3]at h1
   rw [List.size_toArray,<- hl]
   exact Option.some.inj h1
  exact PySem.W.ki_setBack ho ‹1› (by rw [List.size_toArray,<- hl];exact h3) ‹1› (by rw [hk];exact⟨_,I',q⟩)
theorem lW (lo hi:Option Int) (n:Nat):(sliceBounds lo hi none n).1=((HT.sIx n 0 lo:Nat):Int)/\(sliceBounds lo hi none n).2.1=((HT.sIx n n hi:Nat):Int)/\(sliceBounds lo hi none n).2.2=1:=by
 refine⟨?_,?_,rfl⟩
 ·cases lo with
  | none=>simp [sliceBounds,HT.sIx]
  | some i=>
   simp only [sliceBounds,HT.sIx,Option.getD_none,show (1:Int) > 0 by decide,if_true]
   by_cases h:i < 0
   ·simp only [h,if_true] <;> omega
   ·simp only [h,if_false] <;> omega
 ·cases hi with
  | none=>simp [sliceBounds,HT.sIx]
  | some i=>
   simp only [sliceBounds,HT.sIx,Option.getD_none,show (1:Int) > 0 by decide,if_true]
   by_cases h:i < 0
   ·simp only [h,if_true] <;> omega
   ·simp only [h,if_false] <;> omega
theorem kq (its:List Value) (lo hi:Option Int):slicePick its.toArray lo hi none=((its.drop (HT.sIx its.length 0 lo)).take (HT.sIx its.length its.length hi - HT.sIx its.length 0 lo)).toArray:=by
 obtain⟨h1,h2,h3⟩:=lW lo hi its.toArray.size
 unfold slicePick
 rw [h1,h2,h3]
 simp only [sliceRange_one,pick_run,List.size_toArray] <;> rfl
inductive BJ (K:PySem.W.Frag) (x:V) (lo:Option Int) (hi:Option Int) (H:Hp) (Q:VK):Prop
 | mk (a xs) (h1:x=.ref a) (h2:SqL K H a xs) (h3:∀p,H p=none->Q (.ref p) (upd H p (.lst (dH xs lo hi)))):BJ K x lo hi H Q
theorem iS:SlR X (BJ X.K):=by
 intro pins s σ H x v vl vu lo hi sl Q I rx hs pl pu h
 obtain⟨a,xs,rfl,hx,q⟩:=h
 cases rx
 obtain⟨its,r,ht,hz⟩:=I.list hx
 have hlen:=r.length
 refine⟨"list", _,slot_list_getitem.lookup,ht.isList.typeIs,?_⟩
 refine wpAny_getItem_list_slice ht.isList hs pl pu .none (by simp) ?_ (by rw [List.size_toArray] <;> omega)
 rw [kq,<- hlen]
 refine⟨.ref s.heap.objs.size,_,I.laid (t':=s.toks) (o:=.lst (dH xs lo hi)) (λb ob q=>zH0 _ q) (Nat.le_refl _) ?_,rfl,q _ (I.hok.fresh (Nat.le_refl _))⟩
 exact⟨Nat.le_trans (dP xs lo hi) hz,_,0,(r.drop (HT.sIx xs.length 0 lo)).take (HT.sIx xs.length xs.length hi - HT.sIx xs.length 0 lo),Heap.get?_push_size _ rfl⟩
noncomputable def gT:V->Bool
 | .non=>true
 | .bl _=>true
 | .int _=>true
 | .str _=>true
 | _=>false
noncomputable def eqV:V->V->Bool
 | .non,.non=>true
 | .bl a,.bl b=>a == b
 | .bl a,.int b=>(if a then 1 else 0) == b
 | .int a,.bl b=>a == (if b then 1 else 0)
 | .int a,.int b=>a == b
 | .str a,.str b=>a == b
 | _,_=>false
theorem B8 {A:Around}{s:Shared}{y x:V}{u v:Value} (ry:aV y u) (rx:aV x v) (fy:gT y=true) (fx:gT x=true):SeqAt.EqAt A s u v (eqV y x):=by
 cases y with
 | non=>
  cases ry
  cases x with
  | non=>cases rx;exact SeqAt.EqAt.same _
  | bl b=>cases rx;exact SeqAt.EqAt.none_bool b
  | int b=>obtain⟨t,rfl⟩:=rx;exact SeqAt.EqAt.none_int b t
  | str b=>obtain⟨t,rfl⟩:=rx;exact SeqAt.EqAt.none_str b t
  | _=>exact absurd (show false=true from fx) Bool.false_ne_true
 | bl a=>
  cases ry
  cases x with
  | non=>cases rx;exact SeqAt.EqAt.bool_none a
  | bl b=>cases rx;exact SeqAt.EqAt.bool_bool a b
  | int b=>obtain⟨t,rfl⟩:=rx;exact SeqAt.EqAt.bool_int a b t
  | str b=>obtain⟨t,rfl⟩:=rx;exact SeqAt.EqAt.bool_str a b t
  | _=>exact absurd (show false=true from fx) Bool.false_ne_true
 | int a=>
  obtain⟨t',rfl⟩:=ry
  cases x with
  | non=>cases rx;exact SeqAt.EqAt.int_none a t'
  | bl b=>cases rx;exact SeqAt.EqAt.int_bool a t' b
  | int b=>obtain⟨t,rfl⟩:=rx;exact SeqAt.EqAt.int_int a t' b t
  | str b=>obtain⟨t,rfl⟩:=rx;exact SeqAt.EqAt.int_str a t' b t
  | _=>exact absurd (show false=true from fx) Bool.false_ne_true
 | str a=>
  obtain⟨t',rfl⟩:=ry
  cases x with
  | non=>cases rx;exact SeqAt.EqAt.str_none a t'
  | bl b=>cases rx;exact SeqAt.EqAt.str_bool a t' b
  | int b=>obtain⟨t,rfl⟩:=rx;exact SeqAt.EqAt.str_int a t' b t
  | str b=>obtain⟨t,rfl⟩:=rx;exact SeqAt.EqAt.str_str a t' b t
  | _=>exact absurd (show false=true from fx) Bool.false_ne_true
 | _=>exact absurd (show false=true from fy) Bool.false_ne_true
noncomputable def eqU (x:V) (u:Value):Bool:=match u with
 | .none=>eqV .non x
 | .bool b=>eqV (.bl b) x
 | .int i _=>eqV (.int i) x
 | .str z _=>eqV (.str z) x
 | _=>false
theorem wq {x y:V}{u:Value} (r:aV y u) (f:gT y=true):eqU x u=eqV y x:=by
 cases y with
 | non=>cases r;rfl
 | bl b=>cases r;rfl
 | int i=>obtain⟨t,rfl⟩:=r;rfl
 | str z=>obtain⟨t,rfl⟩:=r;rfl
 | _=>exact absurd (show false=true from f) Bool.false_ne_true
theorem hE {x:V}:∀{xs:List V}{us:List Value},aM xs us->xs.all gT=true->us.any (eqU x)=xs.any λy=>eqV y x
 | _,_,.nil,_=>rfl
 | y::xs,u::us,.cons r t,f=>by
  rw [List.all_cons,Bool.and_eq_true]at f
  rw [List.any_cons,List.any_cons,wq r f.1,hE t f.2]
theorem fk {A:Around}{s:Shared}{x:V}{v:Value} (rx:aV x v) (fx:gT x=true):∀{xs:List V}{us:List Value},aM xs us->xs.all gT=true->∀u∈us,SeqAt.EqAt A s u v (eqU x u)
 | _,_,.nil,_=>λu hu=>by cases hu
 | y::xs,u::us,.cons r t,f=>λu' hu=>by
  rw [List.all_cons,Bool.and_eq_true]at f
  rcases List.mem_cons.mp hu with rfl | hu
  ·rw [wq r f.1];exact B8 r rx f.1 fx
  ·exact fk rx fx t f.2 u' hu
noncomputable def inV (x:V) (xs:List V):Bool:=xs.any λy=>eqV y x
inductive rIn (K:PySem.W.Frag) (neg:Bool) (x:V) (y:V) (H:Hp) (Q:VK):Prop
 | mk (p xs) (h1:y=.ref p) (h2:(SqL K H p xs\/SqT K H p xs)) (h3:gT x=true) (h4:xs.all gT=true) (h5:Q (.bl (if neg then !inV x xs else inV x xs)) H):rIn K neg x y H Q
theorem cG:OpR X (compareOp .In) (rIn X.K false):=by
 intro pins s σ H x y v u Q I rx ry h
 obtain⟨p,xs,rfl,hq,fx,fs,q⟩:=h
 cases ry
 rcases hq with hq | hq
 ·obtain⟨its,r,pl,hz⟩:=I.list hq
  refine SeqAt.in_listAt (eqU x) pl.isList (λw hw=>fk rx fx r fs w (by simpa using hw)) ⟨.bl _,H,I,rfl,?_⟩
  rw [show its.toArray.any (eqU x)=its.any (eqU x) by simp,hE r fs]
  exact q
 ·obtain⟨its,r,pl,hz⟩:=I.tuple hq
  refine SeqAt.in_tupleAt (eqU x) pl (λw hw=>fk rx fx r fs w (by simpa using hw)) ⟨.bl _,H,I,rfl,?_⟩
  rw [show its.toArray.any (eqU x)=its.any (eqU x) by simp,hE r fs]
  exact q
theorem mq:OpR X (compareOp .NotIn) (rIn X.K true):=by
 intro pins s σ H x y v u Q I rx ry h
 obtain⟨p,xs,rfl,hq,fx,fs,q⟩:=h
 cases ry
 rcases hq with hq | hq
 ·obtain⟨its,r,pl,hz⟩:=I.list hq
  refine SeqAt.notIn_listAt (eqU x) pl.isList (λw hw=>fk rx fx r fs w (by simpa using hw)) ⟨.bl _,H,I,rfl,?_⟩
  rw [show its.toArray.any (eqU x)=its.any (eqU x) by simp,hE r fs]
  exact q
 ·obtain⟨its,r,pl,hz⟩:=I.tuple hq
  refine SeqAt.notIn_tupleAt (eqU x) pl (λw hw=>fk rx fx r fs w (by simpa using hw)) ⟨.bl _,H,I,rfl,?_⟩
  rw [show its.toArray.any (eqU x)=its.any (eqU x) by simp,hE r fs]
  exact q
theorem aO:cD X (.builtin "len") (λxs H Q=>∃p ys,xs=[.ref p]/\(SqL X.K H p ys\/SqT X.K H p ys)/\Q (.int ys.length) H):=by
 intro pins s σ H xs us Q I r h
 obtain⟨p,ys,rfl,hq,q⟩:=h
 obtain⟨u,rfl,rx⟩:=bY r
 cases rx
 have hn:=ip
 rcases hq with hq | hq
 ·obtain⟨its,r',pl,hz⟩:=I.list hq
  have hlen:=r'.length
  exact Calls.call_len_list pl.isList (by simp only [List.size_toArray] <;> omega) ⟨.int ys.length,H,I.tok _,⟨s.toks+1,by rw [List.size_toArray,hlen]⟩,q⟩
 ·obtain⟨its,r',pl,hz⟩:=I.tuple hq
  have hlen:=r'.length
  exact len_tuple pl (by simp only [List.size_toArray] <;> omega) ⟨.int ys.length,H,I.tok _,⟨s.toks+1,by rw [List.size_toArray,hlen]⟩,q⟩
theorem mQ:cD X (.builtin "len") (λxs H Q=>∃z,xs=[.str z]/\z.length<=sizeLine/\Q (.int z.length) H):=by
 intro pins s σ H xs us Q I r h
 obtain⟨z,rfl,hz,q⟩:=h
 obtain⟨u,rfl,t,rfl⟩:=bY r
 have hn:=ip
 exact len_str ‹1› ⟨.int z.length,H,I.tok _,⟨_,rfl⟩,q⟩
theorem eU:cD X (.type "list") (λxs H Q=>∃p ys,xs=[.ref p]/\(SqL X.K H p ys\/SqT X.K H p ys)/\∀l,H l=none->Q (.ref l) (upd H l (.lst ys))):=by
 intro pins s σ H xs us Q I r h
 obtain⟨p,ys,rfl,hq,q⟩:=h
 obtain⟨u,rfl,rx⟩:=bY r
 cases rx
 have fin:∀(its:List Value),aM ys its->ys.length<=sizeLine->∀(h':Heap) (c':Nat),(∀b o',s.heap.get? b=some o'->h'.get? b=some o')->
   h'.get? s.heap.objs.size=some { cls:=.type "list", dict:=none,data:=.seq its.toArray c',slots:=#[] }->EP X pins σ Q (.ref s.heap.objs.size) { s with heap:=h' }:=λits r' hz h' c' kp e=>
  ⟨.ref s.heap.objs.size,_,I.laid (t':=s.toks) kp (Nat.le_refl _) (show bA X.prog X.w _ h' _ (.lst ys) from ⟨hz,its,c',r',e⟩),rfl,q _ (I.hok.fresh (Nat.le_refl _))⟩
 rcases hq with hq | hq
 ·obtain⟨its,r',pl,hz⟩:=I.list hq
  have hlen:=r'.length
  obtain⟨o,ho,hc,n,hd⟩:=pl.isList
  exact call_list_seq p (.inl rfl) ho hc hd (λh' c' kp e=>fin its r' hz h' c' kp e) (by simp only [List.size_toArray] <;> omega)
 ·obtain⟨its,r',pl,hz⟩:=I.tuple hq
  have hlen:=r'.length
  obtain⟨o,ho,hc,n,hd⟩:=pl
  exact call_list_seq p (.inr rfl) ho hc hd (λh' c' kp e=>fin its r' hz h' c' kp e) (by simp only [List.size_toArray] <;> omega)
def tyV (K:PySem.W.Frag) (T:String) (x:V) (H:Hp):Prop:=match x with
 | .str _=>T = "str"
 | .int _=>T = "int"
 | .ref p=>(T = "list"/\∃xs,SqL K H p xs)\/(T = "tuple"/\∃o,K.lookup p=some o/\o.cls=.type "tuple"/\o.dict=none)\/
   (T = "dict"/\((∃kvs,H p=some (.dK kvs))\/∃kvs,H p=some (.dT kvs)))\/(T = "set"/\∃S n,H p=some (.set S n))
 | _=>False
theorem zG {pins:List (Addr × Obj)}{σ:St}{H:Hp}{s:Shared}{T:String}{x:V}{v:Value} (I:Inv X pins σ H s) (r:aV x v) (ty:tyV X.K T x H) :
  s.TypeIs v T/\∀a,v=.ref a->∃ob,s.heap.get? a=some ob/\ob.dict=none:=by
 cases x with
 | str z=>
  obtain⟨t,rfl⟩:=r
  cases (show T = "str" from ty)
  exact⟨typeIs_str s z t,λ_ e=>nomatch e⟩
 | int i=>
  obtain⟨t,rfl⟩:=r
  cases (show T = "int" from ty)
  exact⟨typeIs_int s i t,λ_ e=>nomatch e⟩
 | ref p=>
  cases r
  rcases ty with⟨rfl,xs,hq⟩ | ⟨rfl,o,hk,hc,hd⟩ | ⟨rfl,hk⟩ | ⟨rfl,S,n,hk⟩
  ·obtain⟨its,_,pl,_⟩:=I.list hq
   refine⟨pl.isList.typeIs,λa e=>?_⟩
   cases e
   obtain⟨o,n,e,c,hd,_⟩:=pl
   exact⟨o,e,hd⟩
  ·refine⟨⟨o,I.kIn p o hk,hc⟩,λa e=>?_⟩
   cases e
   exact⟨o,I.kIn _ o hk,hd⟩
  ·have z:∃o,s.heap.get? p=some o/\o.ExactDict:=by
    rcases hk with⟨kvs,hk⟩ | ⟨kvs,hk⟩
    ·obtain⟨_,_,_,_,o,_,_,e,ex,_⟩:=I.hok p _ hk
     exact⟨o,e,ex⟩
    ·obtain⟨_,_,_,_,o,_,_,e,ex,_⟩:=I.hok p _ hk
     exact⟨o,e,ex⟩
   obtain⟨o,e,ex⟩:=z
   refine⟨⟨o,e,ex.1⟩,λa e2=>?_⟩
   cases e2
   exact⟨o,e,ex.2.1⟩
  ·obtain⟨o,_,_,_,e,ex,_⟩:=I.hok p _ hk
   refine⟨⟨o,e,ex.1⟩,λa e2=>?_⟩
   cases e2
   exact⟨o,e,ex.2.1⟩
 | _=>exact False.elim ty
noncomputable def tBM (K:PySem.W.Frag) (T:String) (r:V->List V->Hp->VK->Prop) (to:TE) (t:TA):TE:=λσ H Q=>to σ H λx H1=>tyV K T x H1/\t σ H1 λxs H2=>r x xs H2 Q
variable {o e:Expr}{es:List Expr}{to:TE}{t:TA}{name:Str}{apos cpos:Pos}{T id:String}{r:V->List V->Hp->VK->Prop}
theorem cK (pa:PlainAttrs T) (slot:Slot T name id) (hty:typeOf (.builtin id)=pure (.type "method_descriptor")) (hm:MtR X id r) (ho:PE X o to) (ha:PA X (e::es) t)
  (hbase:attributeBase o name X.env (eval o X.env)=eval o X.env:=by rfl)
  (hfew:((backTo cpos (starEach (e::es) X.env)).all (λx=>!x.1) && (backToKw cpos (keywordEach [] X.env)).all (λx=>x.1.isSome)
   && decide ((e::es).length+([]:List Keyword).length+(if ([]:List Keyword).isEmpty then 0 else 1) < 30))=true:=by rfl)
  (hline:(apos.endLine == cpos.line)=true:=by rfl) (hs:starEach (e::es) X.env=(false,eval e X.env)::starEach es X.env:=by rfl) (hplain:(backTo cpos (starEach es X.env)).any (·.1)=false:=by rfl) :
  PE X (.Call (.Attribute o name apos) (e::es) [] cpos) (tBM X.K T r to t):=by
 intro pins s σ H Q I h
 refine wpAny_Call_method_late hbase hfew hline rfl (thn (ho pins s σ H _ I h) λv s1 ⟨x,H1,I1,r1,ty,q1⟩=>?_)
 obtain⟨h1,h2⟩:=zG I1 r1 ty
 refine⟨T,id,pa,slot,hty,h1,h2,?_⟩
 have hA:=ha cpos pins s1 σ H1 _ I1 q1
 rw [hs]at hA ⊢
 refine Calls.callWith_builtin (by show (false || (backTo cpos (starEach es X.env)).any (·.1))=false;rw [hplain] <;> rfl) (Calls.evalArgs_plain ?_)
 exact thn hA λus s2 ⟨vs,H2,I2,r2,q2⟩=>hm pins s2 σ H2 x vs v us Q I2 r1 r2 q2
end
def MtM (X:Cx) (id:String) (r:V->List V->Hp->VK->Prop):Prop:=
 ∀(pins:List (Addr × Obj)) (s:Shared) (σ:St) (H:Hp) (x:V) (xs:List V) (v:Value) (us:List Value) (Q:VK),Inv X pins σ H s->aV x v->aM xs us->r x xs H Q->
  wpAny (model X.prog X.w) X.A (call (.builtin id) (v::us)) (EP X pins σ Q) X.xe s
theorem aM.one:∀{x:V}{us:List Value},aM [x] us->∃u,us=[u]/\aV x u
 | _,_,.cons r .nil=>⟨_,rfl,r⟩
theorem aM.eraseIdx:∀{xs:List V}{us:List Value} (i:Nat),aM xs us->aM (xs.eraseIdx i) (us.eraseIdx i)
 | _,_,_,.nil=>.nil
 | _,_,0,.cons _ t=>t
 | _,_,i+1,.cons r t=>.cons r (aM.eraseIdx i t)
theorem lg {α:Type}:∀(l:List α) (i:Nat),(l.eraseIdx i).length<=l.length
 | [],_=>Nat.le_refl _
 | _::_,0=>Nat.le_succ _
 | _::r,i+1=>Nat.succ_le_succ (lg r i)
section
variable {X:Cx}{pins:List (Addr × Obj)}{σ:St}{H:Hp}{s:Shared}{l b:Addr}{xs ys zs:List V}
theorem Inv.lset {its its':List Value}{n:Nat}{f:Array Value->Array Value}{t':Nat} (I:Inv X pins σ H s) (hH:H l=some (.lst xs))
  (e:s.heap.get? l=some { cls:=.type "list", data:=.seq its.toArray n }) (hf:f its.toArray=its'.toArray) (hv:aM ys its') (hz:ys.length<=sizeLine) :
  Inv X pins σ (upd H l (.lst ys)) { s with heap:=s.heap.update l (Obj.mapSeq f),toks:=t' }:=by
 have q:=PySem.IsL.update e f
 rw [hf]at q
 refine I.write (x:=l) (e:=l) (by rw [hH];exact trivial) (.inl rfl) (λb' u hb hu=>(Heap.get?_update_other s.heap (Obj.mapSeq f) (Ne.symm hb)).trans hu) ⟨_,q⟩ ?_
 exact⟨hz,its',_,hv,q⟩
theorem Inv.lnew {its:List Value}{t':Nat} (I:Inv X pins σ H s) (hv:aM ys its) (hz:ys.length<=sizeLine) :
  Inv X pins σ (upd H s.heap.objs.size (.lst ys)) { s with heap:=s.heap.push { cls:=.type "list", data:=.seq its.toArray },toks:=t' }:=
 I.laid (λ_ _ q=>zH0 _ q) (Nat.le_refl _) ⟨hz,its,0,hv,Heap.get?_push_size _ rfl⟩
theorem Inv.fresh (I:Inv X pins σ H s):H s.heap.objs.size=none:=I.hok.fresh (Nat.le_refl _)
theorem Inv.lstM (I:Inv X pins σ H s) (hH:H l=some (.lst xs)):xs.length<=sizeLine/\∃(its:List Value) (n:Nat),aM xs its/\xs.length=its.length/\s.heap.get? l=some { cls:=.type "list", data:=.seq its.toArray n }:=by
 obtain⟨z,its,n,r,e⟩:=I.hok l _ hH
 exact⟨z,its,n,r,r.length,e⟩
theorem vM {n:Nat} (h:n<=sizeLine):Builtin.List.listTooLong n=false:=by
 unfold Builtin.List.listTooLong
 exact decide_eq_false ‹1›
end
section
variable {X:Cx}
inductive qQ (x:V) (vs:List V) (H:Hp) (Q:VK):Prop
 | mk (l xs y) (h1:x=.ref l) (h2:vs=[y]) (h3:H l=some (.lst xs)) (h4:xs.length < sizeLine) (h5:Q .non (upd H l (.lst (xs++[y])))):qQ x vs H Q
theorem du:MtM X "list.append" qQ:=by
 intro pins s σ H x vs v us Q I rx rv h
 obtain⟨l,xs,y,rfl,rfl,hH,hz,q⟩:=h
 cases rx
 obtain⟨u,rfl,ru⟩:=rv.one
 obtain⟨z,its,n,r,hl,e⟩:=I.lstM hH
 refine call_meets F.slot_list_append ⟨_,e,rfl⟩ F.entry_list_append (F.args_list_append_2 _ _) (PySem.list_append l its.toArray n u (by rw [List.size_toArray];omega)) ⟨e,?_⟩
 refine⟨.non,_,I.lset (its':=its++[u]) hH e (by simp) (r.append (.cons ru .nil)) ?_,rfl,q⟩
 rw [List.length_append,List.length_singleton]
 omega
noncomputable def xG:V->List V->Hp->VK->Prop:=λx vs H Q=>∃l b xs zs,x=.ref l/\vs=[.ref b]/\H l=some (.lst xs)/\H b=some (.lst zs)/\xs.length+zs.length<=sizeLine/\Q .non (upd H l (.lst (xs++zs)))
theorem fG:MtM X "list.extend" xG:=by
 intro pins s σ H x vs v us Q I rx rv h
 obtain⟨l,b,xs,zs,rfl,rfl,hH,hB,hz,q⟩:=h
 cases rx
 obtain⟨u,rfl,ru⟩:=rv.one
 cases ru
 obtain⟨z,its,n,r,hl,e⟩:=I.lstM hH
 obtain⟨z2,its2,n2,r2,hl2,e2⟩:=I.lstM hB
 have hsz:its.toArray.size+its2.toArray.size<=sizeLine:=by rw [List.size_toArray,List.size_toArray];omega
 have hlong:¬(!its.toArray.isEmpty && Builtin.List.listTooLong (its.toArray.size+its2.toArray.size))=true:=by
  rw [vM hsz,Bool.and_false]
  exact Bool.false_ne_true
 refine call_meets F.slot_list_extend ⟨_,e,rfl⟩ F.entry_list_extend (F.args_list_extend_2 _ _)
  (AutoSeq1.list_extend_list_list_0 l its.toArray n b its2.toArray n2 hlong (by rw [List.size_toArray];omega) ‹1›) ⟨e,e2,?_⟩
 refine⟨.non,_,I.lset (its':=its++its2) hH e (by simp) (r.append r2) ?_,rfl,q⟩
 rw [List.length_append]
 omega
noncomputable def An:V->List V->Hp->VK->Prop:=λx vs H Q=>∃l xs i k y,x=.ref l/\vs=[.int i]/\H l=some (.lst xs)/\-(2 ^ 63)<=i/\i < 2 ^ 63/\seqIndex? i xs.length=some k/\xs[k]?=some y/\Q y (upd H l (.lst (xs.eraseIdx k)))
theorem vP:MtM X "list.pop" An:=by
 intro pins s σ H x vs v us Q I rx rv h
 obtain⟨l,xs,i,k,y,rfl,rfl,hH,h1,h2,hk,hy,q⟩:=h
 cases rx
 obtain⟨u,rfl,ru⟩:=rv.one
 obtain⟨t,rfl⟩:=ru
 obtain⟨z,its,n,r,hl,e⟩:=I.lstM hH
 obtain⟨w,hw,rw'⟩:=r.get hy
 refine call_meets F.slot_list_pop ⟨_,e,rfl⟩ F.entry_list_pop (F.args_list_pop_2 _ _)
  (MeetsSeq.list_pop_at l its.toArray n i t k w (fitsIndex_both h1 h2) (by rw [List.size_toArray,<- hl];exact hk) (by rw [<- Array.getElem?_toList];exact hw) (by rw [List.size_toArray];omega)) ⟨e,?_⟩
 refine⟨y,_,I.lset (its':=its.eraseIdx k) hH e ?_ (r.eraseIdx k) ?_,rw',q⟩
 ·show its.toArray.eraseIdxIfInBounds k=(its.eraseIdx k).toArray
  rw [List.eraseIdxIfInBounds_toArray]
 ·have:=lg xs k
  omega
inductive BN (x:V) (y:V) (H:Hp) (Q:VK):Prop
 | mk (l b xs zs) (h1:x=.ref l) (h2:y=.ref b) (h3:H l=some (.lst xs)) (h4:H b=some (.lst zs)) (h5:xs.length+zs.length<=sizeLine) (h6:∀p,H p=none->Q (.ref p) (upd H p (.lst (xs++zs)))):BN x y H Q
theorem vn:OpR X (binaryOp .Add) BN:=by
 intro pins s σ H x y v u Q I rx ry h
 obtain⟨l,b,xs,zs,rfl,rfl,hH,hB,hz,q⟩:=h
 cases rx
 cases ry
 obtain⟨z,its,n,r,hl,e⟩:=I.lstM hH
 obtain⟨z2,its2,n2,r2,hl2,e2⟩:=I.lstM hB
 refine PySem.P.add_list e e2 ?_ (by rw [List.size_toArray,List.size_toArray];omega)
 have ea:its.toArray++its2.toArray=(its++its2).toArray:=by simp
 rw [ea]
 exact⟨.ref _,_,I.lnew (t':=s.toks) (r.append r2) (by rw [List.length_append];omega),rfl,q _ I.fresh⟩
end
section
variable {prog:Program}{w:World}{A:Around}{E:Value->Shared->Prop}{s:Shared}
end
section
variable {X:Cx}
end
section
variable {κ:Type} [DecidableEq κ]
noncomputable def valV (kvs:List (κ × V)) (k:κ):Option V:=(kvs.find? λkv=>decide (kv.1=k)).map (·.2)
noncomputable def gH (kvs:List (κ × V)) (k:κ) (v:V):List (κ × V):=
 if (kvs.any λkv=>decide (kv.1=k))=true then kvs.map (λkv=>if kv.1=k then (kv.1,v) else kv) else kvs++[(k,v)]
theorem bZ {p:κ × V}{r:List (κ × V)}{k:κ} (e:p.1=k):valV (p::r) k=some p.2:=by simp [valV,List.find?_cons,e]
theorem c9 {p:κ × V}{r:List (κ × V)}{k:κ} (e:¬p.1=k):valV (p::r) k=valV r k:=by simp [valV,List.find?_cons,e]
theorem gA (k:κ):∀kvs:List (κ × V),(kvs.any λkv=>decide (kv.1=k))=(valV kvs k).isSome
 | []=>rfl
 | p::r=>by
  rw [List.any_cons]
  by_cases e:p.1=k
  ·simp only [bZ e,decide_eq_true e,Bool.true_or,Option.isSome_some]
  ·rw [c9 e,decide_eq_false e,Bool.false_or];exact gA k r
theorem mW (k j:κ) (y:V):∀kvs:List (κ × V),valV (kvs.map λkv=>if kv.1=k then (kv.1,y) else kv) j=(valV kvs j).map λx=>if j=k then y else x
 | []=>rfl
 | p::r=>by
  have ih:=mW k j y r
  rw [List.map_cons]
  by_cases h:p.1=k
  ·rw [if_pos h]
   by_cases e:p.1=j
   ·rw [bZ (p:=(p.1,y)) e,bZ e,Option.map_some,if_pos (e.symm.trans h)]
   ·rw [c9 (p:=(p.1,y)) e,c9 e,ih]
  ·rw [if_neg h]
   by_cases e:p.1=j
   ·rw [bZ (p:=p) e,bZ e,Option.map_some,if_neg (λz=>h (e.trans z))]
   ·rw [c9 (p:=p) e,c9 e,ih]
theorem kL (k j:κ) (y:V):∀kvs:List (κ × V),valV kvs k=none->valV (kvs++[(k,y)]) j=if j=k then some y else valV kvs j
 | [],_=>by
  by_cases e:k=j
  ·rw [if_pos e.symm];exact bZ (p:=(k,y)) e
  ·rw [if_neg (λz=>e z.symm)];exact c9 (p:=(k,y)) e
 | p::r,hn=>by
  rw [List.cons_append]
  have hk:¬p.1=k:=λz=>by rw [bZ z]at hn;cases hn
  rw [c9 hk]at hn
  have ih:=kL k j y r hn
  by_cases e:p.1=j
  ·rw [bZ e,bZ e,if_neg (λz=>hk (e.trans z))]
  ·rw [c9 e,c9 e,ih]
theorem tE (kvs:List (κ × V)) (k j:κ) (y:V):valV (gH kvs k y) j=if j=k then some y else valV kvs j:=by
 unfold gH
 by_cases a:(kvs.any λkv=>decide (kv.1=k))=true
 ·rw [if_pos a,mW]
  rw [gA]at a
  by_cases e:j=k
  ·obtain⟨x,hx⟩:=Option.isSome_iff_exists.mp a
   rw [if_pos e,e,hx,Option.map_some,if_pos rfl]
  ·rw [if_neg e]
   cases valV kvs j with
   | none=>rfl
   | some x=>rw [Option.map_some,if_neg e]
 ·rw [if_neg a]
  refine kL k j y kvs ?_
  rw [gA]at a
  cases q:valV kvs k with
  | none=>rfl
  | some x=>rw [q]at a;exact(a rfl).elim
theorem fm (kvs:List (κ × V)) (k:κ) (v:V):(gH kvs k v).length<=kvs.length+1:=by
 unfold gH
 split
 ·rw [List.length_map];omega
 ·rw [List.length_append,List.length_cons,List.length_nil];omega
theorem eZ.isSome_eq {o:Option V}{u:Option Value} (r:eZ o u):o.isSome=u.isSome:=by
 cases o with
 | none=>cases u with
  | none=>rfl
  | some _=>exact(show False from r).elim
 | some _=>cases u with
  | none=>exact(show False from r).elim
  | some _=>rfl
theorem eZ.getD {o:Option V}{u:Option Value}{d:V}{d':Value} (r:eZ o u) (rd:aV d d'):aV (o.getD d) (u.getD d'):=by
 cases o with
 | none=>cases u with
  | none=>exact rd
  | some _=>exact(show False from r).elim
 | some _=>cases u with
  | none=>exact(show False from r).elim
  | some _=>exact r
theorem KV.val {kvs:List (κ × V)}{vs:List (κ × Value)} (r:KV kvs vs) (k:κ):eZ (valV kvs k) (valueAt vs k):=by
 unfold KV at r
 induction r with
 | nil=>exact True.intro
 | @cons p q ps qs h t ih=>
  obtain⟨h1,h2⟩:=h
  by_cases e:p.1=k
  ·have e':q.1=k:=h1.symm.trans e
   have b:valueAt (q::qs) k=some q.2:=by simp [valueAt,List.find?_cons,e']
   rw [bZ e,b];exact h2
  ·have e':¬q.1=k:=λz=>e (h1.trans z)
   have b:valueAt (q::qs) k=valueAt qs k:=by simp [valueAt,List.find?_cons,e']
   rw [c9 e,b];exact ih
theorem KV.any {kvs:List (κ × V)}{vs:List (κ × Value)} (r:KV kvs vs) (k:κ):(kvs.any λkv=>decide (kv.1=k))=vs.any λkv=>decide (kv.1=k):=by
 unfold KV at r
 induction r with
 | nil=>rfl
 | cons h t ih=>rw [List.any_cons,List.any_cons,ih,h.1]
theorem KV.repl {kvs:List (κ × V)}{vs:List (κ × Value)} (r:KV kvs vs) (k:κ){y:V}{u:Value} (ry:aV y u) :
  KV (kvs.map λkv=>if kv.1=k then (kv.1,y) else kv) (vs.map λkv=>if kv.1=k then (kv.1,u) else kv):=by
 unfold KV at r ⊢
 induction r with
 | nil=>exact .nil
 | @cons p q ps qs h t ih=>
  rw [List.map_cons,List.map_cons]
  refine .cons ?_ ih
  obtain⟨h1,h2⟩:=h
  by_cases e:p.1=k
  ·rw [if_pos e,if_pos (h1.symm.trans e)];exact⟨h1,ry⟩
  ·rw [if_neg e,if_neg (λz=>e (h1.trans z))];exact⟨h1,h2⟩
theorem KV.put {kvs:List (κ × V)}{vs:List (κ × Value)} (r:KV kvs vs) (k:κ){y:V}{u:Value} (ry:aV y u):KV (gH kvs k y) (stored vs k u):=by
 unfold gH stored
 rw [r.any k]
 by_cases e:(vs.any λkv=>decide (kv.1=k))=true
 ·rw [if_pos e,if_pos e];exact r.repl k ry
 ·rw [if_neg e,if_neg e];exact Paired.snoc r ⟨rfl,ry⟩
theorem KV.length {kvs:List (κ × V)}{vs:List (κ × Value)} (r:KV kvs vs):kvs.length=vs.length:=Paired.length r
end
theorem r6 {P:Program}{w:World}{k:Key}{u:Value} (r:aV (kV k) u):(aJ P w).is k u=true:=by
 cases k with
 | inl i=>obtain⟨t,e⟩:=(show ∃t,u=Value.int i t from r);subst e;exact oh P w i t
 | inr x=>obtain⟨t,e⟩:=(show ∃t,u=Value.str x t from r);subst e;exact nZ P w x t
theorem lh {P:Program}{w:World}:∀{ks:List Key}{us:List Value},aM (ks.map kV) us->ItemsAre (aJ P w) ks us
 | [],_,r=>by rw [List.map_nil]at r;cases r;exact .nil
 | k::ks,_,r=>by
  rw [List.map_cons]at r
  cases r with
  | cons h t=>exact .cons (r6 h) (lh t)
noncomputable abbrev KT (H:Hp):List (List Key × V)->List (List Key × Addr × Value)->Prop:=Paired λp q=>p.1=q.1/\H q.2.1=some (.tup (p.1.map kV))/\aV p.2 q.2.2
theorem KT.val {H:Hp}{kvs:List (List Key × V)}{xs:List (List Key × Addr × Value)} (r:KT H kvs xs) (k:List Key):eZ (valV kvs k) ((atKey xs k).map (·.2)):=by
 induction r with
 | nil=>exact True.intro
 | @cons p q ps qs h t ih=>
  obtain⟨h1,_,h2⟩:=h
  by_cases e:p.1=k
  ·have e':q.1=k:=h1.symm.trans e
   have b:atKey (q::qs) k=some q.2:=by simp [atKey,List.find?_cons,e']
   rw [bZ e,b];exact h2
  ·have e':¬q.1=k:=λz=>e (h1.trans z)
   have b:atKey (q::qs) k=atKey qs k:=by simp [atKey,List.find?_cons,e']
   rw [c9 e,b];exact ih
theorem KT.repl {H:Hp}{kvs:List (List Key × V)}{xs:List (List Key × Addr × Value)} (r:KT H kvs xs) (k:List Key){y:V}{u:Value} (ry:aV y u) :
  KT H (kvs.map λkv=>if kv.1=k then (kv.1,y) else kv) (xs.map (putAt k u)):=by
 induction r with
 | nil=>exact .nil
 | @cons p q ps qs h t ih=>
  rw [List.map_cons,List.map_cons]
  refine .cons ?_ ih
  obtain⟨h1,h2,h3⟩:=h
  unfold putAt
  by_cases e:p.1=k
  ·rw [if_pos e,if_pos (h1.symm.trans e)];exact⟨h1,h2,ry⟩
  ·rw [if_neg e,if_neg (λz=>e (h1.trans z))];exact⟨h1,h2,h3⟩
theorem KT.put {H:Hp}{kvs:List (List Key × V)}{xs:List (List Key × Addr × Value)} (r:KT H kvs xs) (k:List Key){b:Addr}{y:V}{u:Value} (hb:H b=some (.tup (k.map kV))) (ry:aV y u) :
  KT H (gH kvs k y) (storedH xs k b u):=by
 have e:(kvs.any λkv=>decide (kv.1=k))=(atKey xs k).isSome:=by
  rw [gA,(r.val k).isSome_eq,Option.isSome_map]
 unfold gH storedH
 rw [e]
 by_cases q:(atKey xs k).isSome=true
 ·rw [if_pos q,if_pos q];exact r.repl k ry
 ·rw [if_neg q,if_neg q];exact Paired.snoc r ⟨rfl,hb,ry⟩
theorem KT.keeps {H H':Hp}{kvs:List (List Key × V)}{xs:List (List Key × Addr × Value)} (r:KT H kvs xs) (ht:∀b ys,H b=some (.tup ys)->H' b=some (.tup ys)):KT H' kvs xs:=
 Paired.mapP r λ_ _ z=>⟨z.1,ht _ _ z.2.1,z.2.2⟩
section
variable {P:Program}{w:World}{H:Hp}{h:Heap}{a:Addr}
theorem yX {u:HO} (ok:HOk P w H h) (e:Rd H a u):bA P w H h a u:=e.ok ok
theorem oI {kvs:List (Key × V)} (ok:HOk P w H h) (e:Rd H a (.dK kvs)):kvs.length<=sizeLine/\(a == sysModules)=false/\∃vs,KV kvs vs/\h.DictOf (aJ P w) a vs:=
 show bA P w H h a (.dK kvs) from yX ok e
theorem Cb {kvs:List (Key × V)} (ok:HOk P w H h) (e:H a=some (.dK kvs)):kvs.length<=sizeLine/\(a == sysModules)=false/\∃vs,KV kvs vs/\h.DictOf (aJ P w) a vs:=oI ok (.inl e)
theorem jK {ks:List Key} (ok:HOk P w H h) (e:H a=some (.tup (ks.map kV))):(tupleKind (aJ P w)).is h ks a:=by
 obtain⟨_,its,r,o,h1,h2,n,h3⟩:=(show bA P w H h a (.tup (ks.map kV)) from ok a _ e)
 exact⟨o,its.toArray,n,h1,h2,h3,by simpa using lh r⟩
theorem oH {kvs:List (List Key × V)} (ok:HOk P w H h) (e:Rd H a (.dT kvs)):kvs.length<=sizeLine/\(a == sysModules)=false/\
  ∃xs,KT H kvs xs/\h.DictOfH (tupleKind (aJ P w)) a xs:=by
 obtain⟨z,y,xs,r,o,es,ep,h1,h2,h3,h4,h5⟩:=(show bA P w H h a (.dT kvs) from yX ok e)
 refine⟨z,y,xs,r,o,es,ep,h1,h2,h3,h4,λx hx=>?_,h5⟩
 have all:∀{l:List (List Key × V)}{m:List (List Key × Addr × Value)},KT H l m->∀x∈m,(tupleKind (aJ P w)).is h x.1 x.2.1:=by
  intro l m q
  induction q with
  | nil=>intro x hx;exact nomatch hx
  | @cons p q ps qs hq t ih=>
   intro x hx
   rcases List.mem_cons.mp hx with e | hx
   ·subst e
    exact jK ok (by rw [<- hq.1];exact hq.2.1)
   ·exact ih x hx
 exact all r x hx
theorem Ca {kvs:List (List Key × V)} (ok:HOk P w H h) (e:H a=some (.dT kvs)):kvs.length<=sizeLine/\(a == sysModules)=false/\
  ∃xs,KT H kvs xs/\h.DictOfH (tupleKind (aJ P w)) a xs:=oH ok (.inl e)
end
def wV (H:Hp) (a:Addr) (y:V) (r:Option V):Prop:=
 (∃kvs k,Rd H a (.dK kvs)/\y=kV k/\r=valV kvs k)\/∃kvs k b,Rd H a (.dT kvs)/\y=.ref b/\H b=some (.tup (k.map kV))/\r=valV kvs k
def Ch (H:Hp) (a:Addr) (y v:V) (H':Hp):Prop:=
 (∃kvs k,H a=some (.dK kvs)/\y=kV k/\kvs.length < sizeLine/\H'=upd H a (.dK (gH kvs k v)))\/
 ∃kvs k b,H a=some (.dT kvs)/\y=.ref b/\H b=some (.tup (k.map kV))/\kvs.length < sizeLine/\H'=upd H a (.dT (gH kvs k v))
section
variable {X:Cx}{pins:List (Addr × Obj)}{σ:St}{H:Hp}{s:Shared}{a:Addr}{y v:V}{u r:Value}{o:Option V}{A:Around}{E:Value->Shared->Prop}
theorem Inv.big (I:Inv X pins σ H s):sysModules < s.heap.objs.size:=by
 have h:mainGlobals < s.heap.objs.size:=(I.mod.glob.keeps I.bk).lt
 exact Nat.lt_trans (by decide) h
theorem sN {Q:Value->Shared->Prop} (hu:A.units+1 < cLine) (I:Inv X pins σ H s) (g:wV H a y (some v)) (ry:aV y u) (h:∀w' s',Inv X pins σ H s'->aV v w'->Q w' s') :
  wpAny (model X.prog X.w) A (getItem (.ref a) u) Q E s:=by
 rcases g with⟨kvs,k,e,ey,l⟩ | ⟨kvs,k,b,e,ey,eb,l⟩
 ·subst ey
  obtain⟨z,hd,vs,rel,dd⟩:=oI I.hok e
  obtain⟨w',hw,rw'⟩:=eZ.some_of (v:=v) (o:=valueAt vs k) (by rw [l];exact rel.val k)
  exact wpAny_getItem_of (r6 ry) dd.mapOf hw (h w' _ (I.tok _) rw')
 ·subst ey
  cases (show u=Value.ref b from ry)
  obtain⟨z,hd,xs,rel,dd⟩:=oH I.hok e
  obtain⟨w',hw,rw'⟩:=eZ.some_of (v:=v) (o:=(atKey xs k).map (·.2)) (by rw [l];exact rel.val k)
  obtain⟨p,hp,hp2⟩:=Option.map_eq_some_iff.mp hw
  refine wpAny_getItem_heap (tupleKind_room_in1 hu) (jK I.hok eb) dd hp ?_
  rw [hp2]
  exact h w' _ (I.tok _) rw'
theorem rC {h':Heap}{t':Nat}{ob:HO} (I:Inv X pins σ H s) (mu:Mut (H a)) (hs:Heap.SameBut a s.heap h') (he:∃q,h'.get? a=some q) (new:bA X.prog X.w (upd H a ob) h' a ob) :
  Inv X pins σ (upd H a ob) { s with heap:=h',toks:=t' }:=
 I.write (x:=a) (e:=a) mu (.inl rfl) (λb q hb z=>(hs.2 b hb).trans z) he new
theorem B9 {P:Program}{w:World}{H':Hp}{h':Heap}{kvs:List (Key × V)}{vs:List (Key × Value)} (z:kvs.length<=sizeLine) (hd:(a == sysModules)=false) (rel:KV kvs vs) (dd:h'.DictOf (aJ P w) a vs) :
  bA P w H' h' a (.dK kvs):=⟨z,hd,vs,rel,dd⟩
theorem sM {H':Hp}{Q:Unit->Shared->Prop} (hu:A.units+1 < cLine) (I:Inv X pins σ H s) (g:Ch H a y v H') (ry:aV y u) (rv:aV v r) (h:∀s',Inv X pins σ H' s'->Q () s') :
  wpAny (model X.prog X.w) A (setItem (.ref a) u r) Q E s:=by
 rcases g with⟨kvs,k,e,ey,l,eH⟩ | ⟨kvs,k,b,e,ey,eb,l,eH⟩
 ·subst ey eH
  obtain⟨z,hd,vs,rel,dd⟩:=Cb I.hok e
  have hz:vs.length<=sizeLine:=by rw [<- rel.length];exact z
  have hl:(gH kvs k v).length<=sizeLine:=by have:=fm kvs k v;omega
  refine wpAny_setItem_pairs (hsz:=hz) (r6 ry) dd λh' dd' hs=>h _ ?_
  have he:∃q,h'.get? a=some q:=let ⟨q,_,_,hq,_⟩:=dd';⟨q,hq⟩
  exact rC I (by rw [e];exact True.intro) hs he (B9 hl hd (rel.put k rv) dd')
 ·subst ey eH
  cases (show u=Value.ref b from ry)
  obtain⟨z,hd,xs,rel,dd⟩:=Ca I.hok e
  have hz:xs.length<=sizeLine:=by rw [<- Paired.length rel];exact z
  have hl:(gH kvs k v).length<=sizeLine:=by have:=fm kvs k v;omega
  refine wpAny_setItem_heap (hsz:=hz) (tupleKind_room_in1 hu) (jK I.hok eb) dd λh' dd' hs=>h _ ?_
  obtain⟨q,es,ep,hq,h2,h3,h4,_,h5⟩:=dd'
  refine rC I (by rw [e];exact True.intro) hs ⟨q,hq⟩ ⟨hl,hd,_,(rel.put k eb rv).keeps λc ys ec=>?_,q,es,ep,hq,h2,h3,h4,h5⟩
  rw [ah (cR ec e (λz=>nomatch z))]
  exact ec
end
section
variable {X:Cx}{pins:List (Addr × Obj)}{σ:St}{H:Hp}{s:Shared}{a:Addr}{kvs:List (Key × V)}{k:Key}{u:Value}{A:Around}{E:Value->Shared->Prop}
end
def Cf (i:Expr):Prop:=∀ov iv,subscripted i false ov iv=operate [ov,iv] (getItem ov iv)
theorem xf {prog:Program}{w:World}{A:Around}{E:Value->Shared->Prop}{s:Shared}{env:Env}{value slice:Expr}{pos:Pos}{T id:String}{Q:Value->Shared->Prop}
  (hl:typeLookup (.type T) "__getitem__" = pure (some (.builtin id))) (hs:Cf slice)
  (h:wpAny (model prog w) A (eval value env) (λo s₁=>wpAny (model prog w) A (eval slice env) (λi s₂=>s₂.TypeIs o T/\wpAny (model prog w) A (getItem o i) Q E s₂) E s₁) E s) :
  wpAny (model prog w) A (eval (.Subscript value slice pos) env) Q E s:=by
 refine Subscript_ (wpAny_mono h (λo s₁ h₁=>wpAny_mono h₁ (λi s₂ h₂=>?_) λ_ _ x=>x) λ_ _ x=>x)
 obtain⟨hT,h₂⟩:=h₂
 unfold subscriptTail
 refine zB0 ?_
 rw [getitemInPython_of_ne hT.not_modules]
 refine zB0 (wpAny_specialOf hT hl ?_)
 have fin:wpAny (model prog w) A (subscripted slice false o i) (λr s₃=>wpAny (model prog w) A (letTemporaryGo value o r >>= λ_=>pure r) Q E s₃) E s₂:=by
  rw [hs o i]
  exact wpAny_operating (wpAny_mono h₂ (λr s₃ h₃=>zB0 (wpAny_letTemporaryGo (zP0 h₃))) λ_ _ x=>x)
 first
  | exact zP0 (zB0 fin)
  | exact zB0 (zP0 (zB0 fin))
  | exact zB0 fin
theorem oJ {X:Cx}{pins:List (Addr × Obj)}{σ:St}{H:Hp}{s:Shared}{a:Addr}{y:V}{o:Option V} (I:Inv X pins σ H s) (g:wV H a y o):s.TypeIs (.ref a) "dict":=by
 rcases g with⟨kvs,k,e,_,_⟩ | ⟨kvs,k,b,e,_,_,_⟩
 ·obtain⟨_,_,vs,_,dd⟩:=oI I.hok e
  exact dd.typeIs
 ·obtain⟨_,_,xs,_,dd⟩:=oH I.hok e
  exact dd.typeIs
inductive zv (x y:V) (H2:Hp) (Q:VK):Prop
 | mk (a v) (h1:x=.ref a) (h2:wV H2 a y (some v)) (h3:Q v H2):zv x y H2 Q
noncomputable def BB (td ty:TE):TE:=λσ H Q=>td σ H λx H1=>ty σ H1 λy H2=>zv x y H2 Q
noncomputable def BI (td ty tv:TE):TS:=λD σ H=>tv σ H λv H1=>td σ H1 λx H2=>ty σ H2 λy H3=>∃a H4,x=.ref a/\Ch H3 a y v H4/\D.nx σ H4
section
variable {X:Cx}{o i e value:Expr}{pos pos' tpos:Pos}{td ty tv:TE}
theorem xL (hu:X.A.units+1 < cLine) (ho:PE X o td) (hi:PE X i ty) (hs:Cf i):PE X (.Subscript o i pos) (BB td ty):=by
 intro pins s σ H Q I h
 refine xf PySem.F.slot_dict_getitem.lookup hs (thn (ho pins s σ H _ I h) λu s1 ⟨x,H1,I1,rx,q1⟩=>thn (hi pins s1 σ H1 _ I1 q1) λiv s2 ⟨y,H2,I2,ry,a,v,ex,g,q2⟩=>?_)
 subst ex
 obtain rfl:u=Value.ref a:=rx
 exact⟨oJ I2 g,sN hu I2 g ry λw' s3 I3 rw'=>⟨v,H2,I3,rw',q2⟩⟩
theorem xK (hu:X.A.units+1 < cLine) (ho:PE X o td) (hi:PE X i ty) (hv:PE X value tv) (hs:swapsWith value (some (.Subscript o i pos')) pos.line X.env=pure false) :
  PS X (.Assign [.Subscript o i pos'] value pos) (BI td ty tv):=by
 intro pins s σ H D I h
 refine wpAny_Assign_Subscript (thn (hv pins s σ H _ I h) λr s1 ⟨v,H1,I1,rv,q1⟩=>thn (ho pins s1 σ H1 _ I1 q1) λu s2 ⟨x,H2,I2,rx,q2⟩=>thn (hi pins s2 σ H2 _ I2 q2) λiv s3 ⟨y,H3,I3,ry,a,H4,ex,g,q3⟩=>?_) hs
 subst ex
 obtain rfl:u=Value.ref a:=rx
 exact sM hu I3 g ry rv λs4 I4=>⟨σ,H4,I4,q3⟩
end
theorem wu {P:Program}{w:World}{H:Hp} (h:Heap) (hb:sysModules < h.objs.size):bA P w H (h.push { cls:=.type "dict", data:=.dict #[] }) h.objs.size (.dT []):=
 ⟨Nat.zero_le _,beq_eq_false_iff_ne.mpr (Ne.symm (Nat.ne_of_lt hb)),[],.nil,_,#[],0,Heap.get?_push_size _ rfl,⟨rfl,rfl,rfl⟩,rfl,rfl,List.nodup_nil⟩
noncomputable def zN:TE:=λ_ H Q=>∀p,H p=none->Q (.ref p) (upd H p (.dT []))
section
variable {X:Cx}{pos:Pos}
theorem vf:PE X (.Dict [] [] pos) zN:=λpins s σ H Q I h=>
 wpAny_Dict_empty ⟨.ref s.heap.objs.size,_,I.laid (a:=s.heap.objs.size) (o:=.dT []) (t':=s.toks) (λ_ _ q=>zH0 _ q) (Nat.le_refl _) (wu s.heap I.big),rfl,h _ (I.hok.fresh (Nat.le_refl _))⟩
end
structure M1 (X:Cx) (o:Expr) (m:Str) (apos:Pos) (e:Expr) (cpos:Pos):Prop where
 base:attributeBase o m X.env (eval o X.env)=eval o X.env
 few:((backTo cpos (starEach [e] X.env)).all (λx=>!x.1) && (backToKw cpos (keywordEach [] X.env)).all (λx=>x.1.isSome)
  && decide (([e]:List Expr).length+([]:List Keyword).length+(if ([]:List Keyword).isEmpty then 0 else 1) < 30))=true
 line:(apos.endLine == cpos.line)=true
 trees:backTo cpos (starEach [e] X.env)=[(false,eval e X.env)]
def IsD (H:Hp) (a:Addr):Prop:=(∃kvs,Rd H a (.dK kvs))\/∃kvs,Rd H a (.dT kvs)
theorem AW {X:Cx}{pins:List (Addr × Obj)}{σ:St}{H:Hp}{s:Shared}{a:Addr} (I:Inv X pins σ H s) (d:IsD H a) :
  s.TypeIs (.ref a) "dict"/\(∀b,Value.ref a=.ref b->∃ob,s.heap.get? b=some ob/\ob.dict=none)/\(a == sysModules)=false:=by
 rcases d with⟨kvs,e⟩ | ⟨kvs,e⟩
 ·obtain⟨_,hd,vs,_,dd⟩:=oI I.hok e
  refine⟨dd.typeIs,λb q=>?_,hd⟩
  cases q
  obtain⟨ob,_,_,h1,h2,_⟩:=dd
  exact⟨ob,h1,h2.2.1⟩
 ·obtain⟨_,hd,xs,_,dd⟩:=oH I.hok e
  refine⟨dd.typeIs,λb q=>?_,hd⟩
  cases q
  obtain⟨ob,_,_,h1,h2,_⟩:=dd
  exact⟨ob,h1,h2.2.1⟩
section
variable {X:Cx}{pins:List (Addr × Obj)}{σ:St}{H:Hp}{s:Shared}{a:Addr}{y d:V}{u r:Value}{o:Option V}{A:Around}{E:Value->Shared->Prop}
theorem Bb {Q:Value->Shared->Prop} (hu:A.units+1 < cLine) (I:Inv X pins σ H s) (g:wV H a y o) (ry:aV y u) (h:∀w' s',Inv X pins σ H s'->aV (o.getD .non) w'->Q w' s') :
  wpAny (model X.prog X.w) A (call (.builtin "dict.get") [.ref a,u]) Q E s:=by
 rcases g with⟨kvs,k,e,ey,l⟩ | ⟨kvs,k,b,e,ey,eb,l⟩
 ·subst ey
  obtain⟨z,hd,vs,rel,dd⟩:=oI I.hok e
  refine call_meetsIn PySem.F.slot_dict_get dd.typeIs PySem.F.entry_dict_get (PySem.F.args_dict_get_2 _ _) (meets_dict_get (aJ X.prog X.w) a (r6 ry) hd) ⟨_,dd.mapOf,h _ _ (I.tok _) ?_⟩
  rw [l]
  exact(rel.val k).getD rfl
 ·subst ey
  cases (show u=Value.ref b from ry)
  obtain⟨z,hd,xs,rel,dd⟩:=oH I.hok e
  refine call_meetsIn PySem.F.slot_dict_get dd.typeIs PySem.F.entry_dict_get (PySem.F.args_dict_get_2 _ _) (meetsH_dict_get (tupleKind (aJ X.prog X.w)) a b hd) ⟨tupleKind_room_in1 hu,k,xs,jK I.hok eb,dd,h _ _ (I.tok _) ?_⟩
  rw [l]
  exact(rel.val k).getD rfl
end
noncomputable def zO (td ty:TE):TE:=λσ H Q=>td σ H λx H1=>∃a,x=.ref a/\IsD H1 a/\ty σ H1 λy H2=>∃o,wV H2 a y o/\Q (o.getD .non) H2
section
variable {X:Cx}{o e f:Expr}{apos cpos:Pos}{td ty tx:TE}
theorem jC (hu:X.A.units+1 < cLine) (ho:PE X o td) (he:PE X e ty) (m:M1 X o "get" apos e cpos):PE X (.Call (.Attribute o "get" apos) [e] [] cpos) (zO td ty):=by
 intro pins s σ H Q I h
 refine wpAny_Call_method m.base m.few m.line PySem.F.plainAttrs_dict PySem.F.slot_dict_get PySem.F.type_dict_get (thn (ho pins s σ H _ I h) λu s1 ⟨x,H1,I1,rx,a,ex,d,q1⟩=>?_)
 subst ex
 obtain rfl:u=Value.ref a:=rx
 obtain⟨t1,t2,_⟩:=AW I1 d
 refine⟨t1,t2,?_⟩
 rw [m.trees]
 refine Calls.callWith_builtin rfl (Calls.evalArgs_plain (Calls.spliced_cons (thn (he pins s1 σ H1 _ I1 q1) λiv s2 ⟨y,H2,I2,ry,ov,g,q2⟩=>Calls.spliced_nil ?_)))
 exact Bb hu I2 g ry λw' s3 I3 rw'=>⟨_,H2,I3,rw',q2⟩
end
section
variable {X:Cx}{pins:List (Addr × Obj)}{σ:St}{H:Hp}{s:Shared}{a:Addr}{kvs:List (Key × V)}{A:Around}{E:Value->Shared->Prop}
end
section
variable {X:Cx}{pins:List (Addr × Obj)}{σ:St}{H:Hp}{s:Shared}{a:Addr}{y:V}{u:Value}{A:Around}{E:Value->Shared->Prop}
end
end L2
namespace Att
open PySem PySem.W PySem.Calls PyProof.Rows
theorem iK {P:Params}{h:Heap}:∀(ns:List Int) (vs:List Value),WellAll P h vs (ns.map WData.int)->IntsAre vs ns:=by
 intro ns
 induction ns with
 | nil=>
  intro vs w
  rw [List.map_nil]at w
  cases w
  exact .nil
 | cons n ns ih=>
  intro vs w
  rw [List.map_cons]at w
  cases w with
  | cons a b=>
   cases a
   exact .cons _ _ (ih _ b)
theorem rV {l:OpenLaw}{n:Nat} (hn:l.most=some n){P:Params}{h:Heap}{args:List WData}{vals:List Value}
  (hpre:l.row.toRowW.claim.pre args=true) (hwl:WellAll P h vals args) :
  ∃a vs ns,vals=[Value.ref a]/\args=[WData.list (ns.map WData.int)]/\h.get? a=some { cls:=.type "list", data:=.seq vs.toArray }/\IntsAre vs ns/\ns.length<=n:=by
 have hsh:WShape.hasAll [] args [.list .int]=true:=(pre_splitW hpre).1
 have hc:l.pre.holds [] { args:=args }=true:=(pre_splitW hpre).2
 obtain⟨d,r,rfl,h1,h2⟩:=hasAllW_cons hsh
 obtain rfl:=hasAllW_nil h2
 obtain⟨xs,rfl,h3⟩:=hasW_list h1
 obtain⟨ns,rfl⟩:=items_int h3
 have hlen:ns.length<=n:=by
  unfold OpenLaw.pre at hc
  have h4:(WTm.not (.lt (.lit (.int (n:Int))) (.len (.arg 0)))).holds [] { args:=[.list (ns.map .int)] }=true:=by
   have h4:=(holds_andW hc).1
   rw [hn]at h4
   exact h4
  have h5:=condW_of h4 (w_not (w_lt w_lit (w_len_list (w_arg rfl))))
  rw [List.length_map]at h5
  refine Nat.le_of_not_lt λq=>?_
  have q':(n:Int) < ((ns.length:Nat):Int):=by omega
  first
   | (rw [decide_eq_true q']at h5;exact absurd h5 (by decide))
   | (simp at h5;omega)
 cases hwl with
 | cons w1 w2=>
  cases w2
  cases w1 with
  | list ho hall=>exact⟨_,_,ns,rfl,rfl,ho,iK ns _ hall,hlen⟩
theorem sd (l:OpenLaw) (args:List WData):l.row.toRowW.claim.post args (.bool true) args=true:=
 postW_of (r:=l.row.toRowW) (X:=(true == true))
  (show WShape.has [] (.bool true) .bool=true by first | rfl | decide | simp [WShape.has,WShape.arms,WShape.armsAll])
  (show (WTm.eq .res (.lit (.bool true))).value [] { args:=args,res:=some (.bool true),after:=args }=some (.bool (true == true)) from w_eq_bool (w_res rfl) w_lit) rfl
theorem attach_call {l:OpenLaw}{n:Nat}{q:Program}{loose:List Str}{XP:(Str->Option Value)->Heap->Prop}{YP:World->Heap->Prop}{d:DefRec}
  (hn:l.most=some n) (hdf:d.params.defaults=[])
  (call:∀(w:World) (s₀ s₁:Shared) (mg mb:Str->Option Value) (fa:Addr) (o:Obj) (pm cd doc:Value) (a:Addr) (vs:List Value) (ns:List Int),
   Ground q loose [] XP w s₀ mg mb s₁.heap->YP w s₁.heap->
   s₁.heap.get? fa=some o->o.data=.func (docDef d.name d.params d.body d.scope pm cd doc)->s₁.heap.CodeRec cd d.name->mg d.name=some (.ref fa)->
   s₁.heap.get? a=some { cls:=.type "list", data:=.seq vs.toArray }->IntsAre vs ns->ns.length<=n->s₁.gens = #[]->
   codeAny (model l.prog w) callerA (.call (.ref fa) ⟨[.ref a],[]⟩) (λr s'=>r=.ok (.ret (.bool true))/\OldK s₁.heap s'.heap/\s'.os=s₁.os/\AllBare s'.gens) s₁) :
  WalkO q loose XP YP l.row.toRowW d [] (λf vs=>PySem.call f vs):=by
 intro w s₀ s₁ mg mb G Y fa o pm cd doc dV kV ho hd hcd hD hmg hg args vals as hpre hlay hrd hwl hlo
 obtain rfl:dV=.none:=Dflts.none hD hdf
 obtain rfl:kV=.none:=Dflts.noKw hD
 obtain⟨a,vs,ns,rfl,rfl,hobj,hints,hlen⟩:=rV hn hpre hwl
 refine enter_call (codeAny_mono (call w s₀ s₁ mg mb fa o pm cd doc a vs ns G Y ho (fd_plain hd) hcd hmg hobj hints hlen hg) λr s' hq=>?_)
 obtain⟨rfl,h2,h3,h4⟩:=hq
 exact⟨.inl ⟨.bool true,.bool true,[],rfl,λ_=>rfl,.bool true,sd l _,λ_=>⟨List.Pairwise.nil,λ_ hm=>(nomatch hm)⟩⟩,h2,h3,h4⟩
section
variable {prog:Program}{w:World}{A:Around}{E:Value->Shared->Prop}{s:Shared}{K:Frag}
end
end Att
namespace L2
open PySem PySem.Spec PyProof.Rows
theorem kK:∀{vs:List Value}{ns:List Int},IntsAre vs ns->aM (ns.map V.int) vs
 | _,_,.nil=>.nil
 | _,_,.cons n t h=>.cons ⟨t,rfl⟩ (kK h)
noncomputable def aU (s:Stmt) (j:Nat):Stmt:=match s with
 | .ClassDef _ _ _ body _ _ _ _ _ _ _=>body.getD j (.Pass ⟨0,0,0,0⟩)
 | _=>.Pass ⟨0,0,0,0⟩
noncomputable def dl (s:Stmt):Arguments:=match s with
 | .FunctionDef _ a _ _ _ _ _ _ _ _=>a
 | _=>{ posonlyargs:=[],args:=[],vararg:=none,kwonlyargs:=[],kw_defaults:=[],kwarg:=none,defaults:=[] }
noncomputable def cE (s:Stmt):List Stmt:=match s with
 | .FunctionDef _ _ b _ _ _ _ _ _ _=>b
 | _=>[]
noncomputable def aq (s:Stmt):Scope:=match s with
 | .FunctionDef _ _ _ _ _ _ sc _ _ _=>sc
 | _=>{ kind:=.function,names:=[],isGenerator:=false,isCoroutine:=false }
noncomputable abbrev CX0:CXT:=λ_ _ _ _ _ _=>False
noncomputable abbrev E0:XK:=λ_ _ _=>False
theorem av {X:Cx}:dJ CX0 X E0:=λ_ _ _ _ _ _ _ h=>h.elim
structure Fun (K:PySem.W.Frag) (x qual:Str) (st:Stmt) (f:Addr) (fd:FuncData):Prop where
 ex:∃(oc:Value) (od:Option Addr) (kV doc pm:Value) (an:Option Addr) (cdv ct:Value) (osl:Array (Option Value)),
  fd=PySem.W.fnOf x qual (dl st) (cE st) (aq st) .none kV doc pm an cdv ct/\K.lookup f=some ⟨oc,od,.func fd,osl⟩/\PySem.W.codeIn K cdv qual=true
 kp:PySem.W.keepIn K (.ref f)=true
section
variable {P:Program}{w:World}{K:W.Frag}{mg:Str->Option Value}{base:Heap}
theorem Fun.ok {x qual:Str}{st:Stmt}{f:Addr}{fd:FuncData}{N ps:List Str}{k:Nat}{sp:Sp} (F:Fun K x qual st f fd) (S:FnScope N ps (aq st)) (len:∀vs H Q E,sp vs H Q E->vs.length=ps.length)
  (hbody:∀(cdv:Value) (A:Around) (outer:List Env) (s:Shared) (H:Hp) (vs:List V) (Q:VK) (E:XK),Room k (A.deeper (envOfC qual (aq st) s.heap.objs.size f cdv))->sp vs H Q E->
   ∃t,PSs (jX CX0 P w K mg base N qual (aq st) f cdv A outer s H E).nox (cE st) t/\t { nx:=λ_ H'=>Q .non H',rt:=Q } (db N vs) H):FnOk P w K mg base CX0 (k+1) f fd ps sp:=by
 obtain⟨oc,od,kV,doc,pm,an,cdv,ct,osl,rfl,lk,hcd⟩:=F.ex
 refine C6 lk hcd S len λA outer s H vs Q E hr hsp=>?_
 obtain⟨t,h,q⟩:=hbody cdv A outer s H vs Q E hr hsp
 exact⟨t,h.nox,q⟩
theorem Fun.binds {x qual:Str}{st:Stmt}{f:Addr}{fd:FuncData}{ps:List Str} (F:Fun K x qual st f fd)
  (h:∀(kV doc pm:Value) (an:Option Addr) (cdv ct:Value) (us:List Value),us.length=ps.length->bindArgs (PySem.W.fnOf x qual (dl st) (cE st) (aq st) .none kV doc pm an cdv ct) ⟨us,[]⟩=pure (ps.zip us)):cj K fd ps []:=by
 obtain⟨oc,od,kV,doc,pm,an,cdv,ct,osl,rfl,lk,hcd⟩:=F.ex
 exact .all (h kV doc pm an cdv ct)
theorem fun_mk {x qual:Str}{st:Stmt}{f:Addr}{oc:Value}{od an:Option Addr}{osl:Array (Option Value)}{kV doc pm cdv ct:Value} (l:K.lookup f=some ⟨oc,od,.func (PySem.W.fnOf x qual (dl st) (cE st) (aq st) .none kV doc pm an cdv ct),osl⟩)
  (c:PySem.W.codeIn K cdv qual=true) (k:PySem.W.keepIn K (.ref f)=true):Fun K x qual st f (PySem.W.fnOf x qual (dl st) (cE st) (aq st) .none kV doc pm an cdv ct):=⟨⟨oc,od,kV,doc,pm,an,cdv,ct,osl,rfl,l,c⟩,k⟩
end
theorem aL {A:Around}{k:Nat} (hr:Room k A):A.units+1 < cLine:=Nat.lt_of_le_of_lt (Nat.add_le_add_left (by decide:1<=64) _) hr.units
theorem bj {n:Nat} (h:n<=1000):n < sizeLine:=Nat.lt_of_le_of_lt h (by decide)
section
variable {X:Cx}
theorem pv (i:Nat){x:Str}{pos:Pos} (hN:X.N[i]?=some x:=by rfl) (hv:Vis X.env.scope x:=by first | exact Or.inl rfl | exact Or.inr (Or.inl rfl) | exact Or.inr (Or.inr rfl)) (hd:(x == ("__debug__" : Str))=false:=by decide)
  (hcd:(x == ("__classdict__" : Str))=false:=by decide):PE X (.Name x pos) (jf i):=Aw hN hv hd hcd
end
theorem aZ {A B:Prop} (h:B):if false=true then A else B:=by
 rw [if_neg Bool.false_ne_true]
 exact h
theorem bB {A B:Prop} (h:A):if true=true then A else B:=by
 rw [if_pos rfl]
 exact h
theorem dS {c A B:Prop} [Decidable c] (h1:c->A) (h2:¬c->B):if c then A else B:=by
 by_cases h:c
 ·rw [if_pos h]
  exact h1 h
 ·rw [if_neg h]
  exact h2 h
section
variable {κ:Type} [DecidableEq κ]
end
end L2
set_option maxHeartbeats 4000000
namespace L2
open PySem PySem.Spec PyProof.Rows
section
variable {X:Cx}{pins:List (Addr × Obj)}{σ:St}{H:Hp}{s:Shared}{h':Heap}
theorem Inv.table {P:Addr}{ps more:Array Value}{t':Nat} (I:Inv X pins σ H s) (e:H P=some (.tbl ps)) (k:∀b o,b≠P->s.heap.get? b=some o->h'.get? b=some o)
  (hP:h'.get? P=some { cls:=.none,data:=.fields (ps++more) }):Inv X pins σ (upd H P (.tbl (ps++more))) { s with heap:=h',toks:=t' }:=by
 have nP:∀b,H b=none->b≠P:=λb n z=>by rw [z,e]at n;cases n
 refine I.un ⟨λb o q n _ _=>k b o (nP b n) q,λb o q n _ _=>⟨o.slots,k b o (nP b n) q⟩,λb o q n _=>by rw [ah (nP b n)];exact n,λb o q _=>?_,λb xs q=>?_,λb o u q=>?_,λb qs q=>?_⟩ λb u q=>?_
 ·by_cases z:b=P
  ·exact⟨_,by rw [z];exact hP⟩
  ·exact⟨o,k b o z q⟩
 ·rw [ah (cR q e (by intro z;cases z))];exact q
 ·rw [ah (cR q e (by intro z;cases z))];exact q
 ·by_cases z:b=P
  ·subst z;rw [e]at q;cases q;exact⟨more,aj⟩
  ·exact⟨#[],by rw [ah z,q];simp⟩
 ·by_cases z:b=P
  ·subst z;rw [aj]at q;cases q;exact hP
  ·rw [ah z]at q
   refine(I.hok b u q).stay (λc v hc r=>k c v ?_ r) (λc r=>by rw [ah (cR r e (by intro z;cases z))];exact r) λc xs r=>by rw [ah (cR r e (by intro z;cases z))];exact r
   rcases hc with hc | hc
   ·rw [hc];exact z
   ·exact cR hc e (by intro z;cases z)
theorem Inv.track {a:Addr}{o:HO} (I:Inv X pins σ H s) (hs:X.s₀.heap.objs.size<=a) (f:iA X pins H a) (new:bA X.prog X.w (upd H a o) s.heap a o):Inv X pins σ (upd H a o) s:=by
 obtain⟨hn,hL,hfs,_,hcl,hpn⟩:=f
 have ne:∀b u,H b=some u->b≠a:=λb u q=>ai q hn
 refine⟨I.ok,I.os,I.bare,⟨I.base.keep,I.base.slot,λb ob q n hx=>?_,I.base.there,λb xs q=>?_,λb ob u q=>?_,λb ps q=>?_⟩,I.loc,I.cell,?_,λx c q=>?_,λp hp=>?_,λb u q=>?_,I.len⟩
 ·rw [ah (Nat.ne_of_lt (Nat.lt_of_lt_of_le (Heap.lt_size q) hs))];exact I.base.free b ob q n hx
 ·have r:=I.base.tups b xs q
  rw [ah (ne b _ r)];exact r
 ·have r:=I.base.frzs b ob u q
  rw [ah (ne b _ r)];exact r
 ·obtain⟨m,r⟩:=I.base.tbls b ps q
  exact⟨m,by rw [ah (ne b _ r)];exact r⟩
 ·rw [ah (Ne.symm hL)];exact I.free
 ·rw [ah (hcl x c q)];exact I.freeC x c q
 ·obtain⟨e,n,r⟩:=I.pin p hp
  exact⟨e,by rw [ah (hpn p hp)];exact n,r⟩
 ·by_cases z:b=a
  ·subst z;rw [aj]at q;cases q;exact new
  ·rw [ah z]at q
   exact(I.hok b u q).stay (λ_ _ _ r=>r) (λc r=>by rw [ah (ne c _ r)];exact r) λc xs r=>by rw [ah (ne c _ r)];exact r
end
noncomputable def bG (c:Addr) (q:Str):Heap->Prop:=λh=>h.CodeRec (.ref c) q
theorem bG.st {c:Addr}{q:Str}{h1 h2:Heap} (x:bG c q h1) (k:∀o,h1.get? c=some o->h2.get? c=some o):bG c q h2:=by
 obtain⟨c',o,vs,t,e,g,r⟩:=x
 cases e
 exact⟨c,o,vs,t,rfl,k o g,r⟩
theorem bG.obj {c:Addr}{q:Str}{h:Heap} (x:bG c q h):∃o,h.get? c=some o:=by
 obtain⟨c',o,vs,t,e,g,r⟩:=x
 cases e
 exact⟨o,g⟩
def kG (P:Addr) (pos:Pos) (q:Str) (H:Hp):Prop:=
 H P=some (.tbl #[])\/∃c,H P=some (.tbl #[rawInt pos.line,rawInt pos.col,.ref c])/\H c=some (.ext (bG c q))
theorem kG.tbl {P:Addr}{pos:Pos}{q:Str}{H:Hp} (L:kG P pos q H):∃ps,H P=some (.tbl ps):=by
 rcases L with L | ⟨c,L,_⟩
 ·exact⟨_,L⟩
 ·exact⟨_,L⟩
structure Go (P:Addr) (pos:Pos) (q:Str) (H H':Hp):Prop where
 same:∀b o,b≠P->H b=some o->H' b=some o
 lam:kG P pos q H'
theorem Go.at {P:Addr}{pos:Pos}{q:Str}{H H':Hp} (G:Go P pos q H H') (L:kG P pos q H){b:Addr}{o:HO} (e:H b=some o) (n:∀ps,o≠.tbl ps):H' b=some o:=by
 obtain⟨ps,eP⟩:=L.tbl
 exact G.same b o (cR e eP (n ps)) e
theorem kG.upd_new {P:Addr}{pos:Pos}{q:Str}{H:Hp} (L:kG P pos q H){a:Addr}{o:HO} (hn:H a=none):kG P pos q (upd H a o):=by
 rcases L with L | ⟨c,L,Lc⟩
 ·exact .inl (by rw [ah (ai L hn)];exact L)
 ·exact .inr ⟨c,by rw [ah (ai L hn)];exact L,by rw [ah (ai Lc hn)];exact Lc⟩
theorem Go.new {P:Addr}{pos:Pos}{q:Str}{H:Hp} (L:kG P pos q H){a:Addr}{o:HO} (hn:H a=none):Go P pos q H (upd H a o):=
 ⟨λb u _ e=>by rw [ah (ai e hn)];exact e,L.upd_new hn⟩
section
variable {X:Cx}
end
section
variable {prog:Program}{w:World}{A:Around}{E:Value->Shared->Prop}{s:Shared}
end
class Rk where
 rk:Value->Int
 kd:SortKind
 ok:Value->Prop
class RkOk (prog:Program) (w:World) (A:Around) (s:Shared) extends Rk where
 lt:∀(x y:Value) (E:Value->Shared->Prop) (R:Bool->Shared->Prop),ok x->ok y->R (decide (rk x < rk y)) s->wpAny (model prog w) A (keyLt' kd x y) R E s
noncomputable def Kr [Rk] (xs:Array Keyed) (i:Nat):Int:=match xs[i]? with
 | some p=>Rk.rk p.1
 | none=>0
def zC [Rk] (xs:Array Keyed) (k:Nat):Prop:=∀i j,i<=j->j < k->Kr xs i<=Kr xs j
def dI [Rk] (xs:Array Keyed):Prop:=∀p,p∈xs.toList->Rk.ok p.1
theorem dM [Rk] {xs ys:Array Keyed}{i j:Nat} (h:xs[i]?=ys[j]?):Kr xs i=Kr ys j:=by unfold Kr;rw [h]
theorem iz [Rk] {xs:Array Keyed}{src d:Nat} (hs:src < xs.size) (hd:d<=src) (k:Nat) :
  Kr (bubble xs src d) k=if k=src - d then Kr xs src else if src - d < k/\k<=src then Kr xs (k - 1) else Kr xs k:=by
 have e:=getElem?_bubble hs d hd k
 by_cases h1:k=src - d
 ·rw [if_pos h1]at e ⊢;exact dM e
 ·rw [if_neg h1]at e ⊢
  by_cases h2:src - d < k/\k<=src
  ·rw [if_pos h2]at e ⊢;exact dM e
  ·rw [if_neg h2]at e ⊢;exact dM e
theorem fN [Rk] {xs:Array Keyed}{i j:Nat} (hj:j<=xs.size) (k:Nat) :
  Kr (mirror xs i j ((j - i) / 2)) k=if i<=k/\k < j then Kr xs (i+j - 1 - k) else Kr xs k:=by
 have e:=getElem?_mirror_all (i:=i) hj k
 by_cases h1:i<=k/\k < j
 ·rw [if_pos h1]at e ⊢;exact dM e
 ·rw [if_neg h1]at e ⊢;exact dM e
theorem bE [Rk] {xs:Array Keyed}{i j:Nat} (hj:j<=xs.size) (heq:∀k,i<=k->k < j->Kr xs k=Kr xs (j - 1)) (k:Nat) :
  Kr (mirror xs i j ((j - i) / 2)) k=Kr xs k:=by
 rw [fN hj]
 split
 ·rw [heq _ ‹1› ‹1›,heq k ‹1› ‹1›]
 ·rfl
noncomputable def j6:Bool->Keyed->Array Keyed->Nat->Nat->Nat->StateT SortSt Sem (Option Nat):=sortPriv% PySem.Builtin.gallop
section
variable {prog:Program}{w:World}{A:Around}{E:Value->Shared->Prop}{s:Shared}
theorem oi [RkOk prog w A s] {st:SortSt}{x y:Value}{c d:Int}{p q:Value}{R:Option Bool->SortSt->Prop} (hk:kindOf st=Rk.kd) (hx:Rk.rk x=c/\Rk.ok x) (hy:Rk.rk y=d/\Rk.ok y) (h:R (some (decide (c < d))) st):wpS (model prog w) A E s (lt' (x,p) (y,q)) R st:=by
 rw [lt'_eq]
 refine wpS_bind (wpS_get ?_)
 rw [hk]
 refine wpS_bind (wpS_lift (wpAny_attempt (RkOk.lt x y _ _ hx.2 hy.2 ⟨rfl,?_⟩)))
 rw [hx.1,hy.1]
 exact wpS_pure h
theorem zo {st:SortSt}{n:Nat} (β:Nat->Bool){lo hi:Nat}{Q:(Option (Option Nat) × Nat × Nat)->SortSt->Prop}{F:Nat->(Option (Option Nat) × Nat × Nat)->StateT SortSt Sem (ForInStep (Option (Option Nat) × Nat × Nat))}
  (mono:∀i j,i<=j->j < n->β j=true->β i=true)
  (stop:∀x lo hi {R:ForInStep (Option (Option Nat) × Nat × Nat)->SortSt->Prop},hi<=lo->R (.done (none,lo,hi)) st->wpS (model prog w) A E s (F x (none,lo,hi)) R st)
  (up:∀x lo hi {R:ForInStep (Option (Option Nat) × Nat × Nat)->SortSt->Prop},lo < hi->hi<=n->β (lo+(hi - lo) / 2)=true->R (.yield (none,lo+(hi - lo) / 2+1,hi)) st->wpS (model prog w) A E s (F x (none,lo,hi)) R st)
  (dn:∀x lo hi {R:ForInStep (Option (Option Nat) × Nat × Nat)->SortSt->Prop},lo < hi->hi<=n->β (lo+(hi - lo) / 2)=false->R (.yield (none,lo,lo+(hi - lo) / 2)) st->wpS (model prog w) A E s (F x (none,lo,hi)) R st)
  (h1:lo<=hi) (h2:hi<=n) (h3:∀i,i < lo->β i=true) (h4:∀i,hi<=i->i < n->β i=false)
  (h:∀k,k<=n->(∀i,i < k->β i=true)->(∀i,k<=i->i < n->β i=false)->Q (none,k,k) st):wpS (model prog w) A E s (forIn [:n] (none,lo,hi) F) Q st:=by
 refine wpS_forRange (I:=λi c st'=>st'=st/\∃lo hi,c=(none,lo,hi)/\lo<=hi/\hi<=n/\hi - lo<=n - i/\(∀j,j < lo->β j=true)/\(∀j,hi<=j->j < n->β j=false)) ?_ ?_ ⟨rfl,lo,hi,rfl,h1,h2,by omega,h3,h4⟩
 ·rintro i c st' _ hi' ⟨rfl,lo,hi,rfl,g1,g2,g3,g4,g5⟩
  by_cases hl:hi<=lo
  ·have e:lo=hi:=by omega
   subst e
   exact stop _ _ _ hl (h lo g2 g4 g5)
  ·have l:lo < hi:=by omega
   cases e:β (lo+(hi - lo) / 2) with
   | true=>exact up _ _ _ l g2 e ⟨rfl,_,_,rfl,by omega,g2,by omega,λj hj=>mono j _ ‹1› ‹1› e,g5⟩
   | false=>
    refine dn _ _ _ l g2 e ⟨rfl,_,_,rfl,by omega,by omega,by omega,g4,λj hj hn=>?_⟩
    cases ej:β j with
    | false=>rfl
    | true=>rw [mono _ j hj hn ej]at e;exact absurd e (by decide)
 ·rintro c st' ⟨rfl,lo,hi,rfl,g1,g2,g3,g4,g5⟩
  have e:lo=hi:=by omega
  subst e
  exact h lo g2 g4 g5
theorem jN {st:SortSt}{Q:Option Nat->SortSt->Prop}{left:Bool}{arr:Array Keyed}{key:Keyed}{base n hint:Nat} (β:Nat->Bool) (hh:hint < n)
  (bey:∀(i:Nat){R:Option Bool->SortSt->Prop},i < n->R (some (β i)) st->wpS (model prog w) A E s (do let x <- elem' arr (base+i);if left=true then lt' x key else (do let r <- lt' key x;pure (Option.map (λb=>!b) r))) R st)
  (mono:∀i j,i<=j->j < n->β j=true->β i=true)
  (h:∀k,k<=n->(∀i,i < k->β i=true)->(∀i,k<=i->i < n->β i=false)->Q (some k) st):wpS (model prog w) A E s (j6 left key arr base n hint) Q st:=by
 have dmono:∀i j,i<=j->j < n->β i=false->β j=false:=λi j hij hj e=>by
  cases ej:β j with
  | false=>rfl
  | true=>rw [mono i j hij hj ej]at e;exact absurd e (by decide)
 unfold j6
 k_delta "gallop"
 dsimp only
 refine wpS_bind (bey hint hh ?_)
 dsimp only
 cases eh:β hint with
 | true=>
  rw [if_pos rfl]
  refine wpS_bind (wpS_mono (wpS_forRange (I:=λi c st'=>st'=st/\∃last ofs,c=(none,last,ofs)/\last < ofs/\i < ofs/\hint+last < n/\β (hint+last)=true)
   (Q:=λc st'=>st'=st/\∃last ofs,c=(none,last,ofs)/\last < ofs/\hint+last < n/\β (hint+last)=true/\(hint+ofs < n->β (hint+ofs)=false)) ?step ?fin ⟨rfl,0,1,rfl,by omega,by omega,by omega,eh⟩) ?post)
  case fin=>
   rintro c st' ⟨rfl,last,ofs,rfl,a1,a2,a3,a4⟩
   exact⟨rfl,last,ofs,rfl,a1,a3,a4,λ_=>by omega⟩
  case step=>
   rintro i c st' _ hi ⟨rfl,last,ofs,rfl,a1,a2,a3,a4⟩
   dsimp only
   by_cases hm:ofs>=n - hint
   ·rw [if_pos hm]
    exact wpS_pure ⟨rfl,last,ofs,rfl,a1,a3,a4,λ_=>by omega⟩
   ·rw [if_neg hm]
    refine wpS_bind (bey (hint+ofs) ‹1› ?_)
    dsimp only
    cases eo:β (hint+ofs) with
    | true=>
     rw [if_neg (by decide)]
     exact wpS_pure ⟨rfl,ofs,2 * ofs+1,rfl,by omega,by omega,by omega,eo⟩
    | false=>
     rw [if_pos (show (!false)=true from rfl)]
     exact wpS_pure ⟨rfl,last,ofs,rfl,a1,a3,a4,λ_=>eo⟩
  case post=>
   rintro c st' ⟨rfl,last,ofs,rfl,a1,a3,a4,a5⟩
   dsimp only
   refine wpS_bind (zo β mono (λx lo hi R hl r=>?_) (λx lo hi R hl hn e r=>?_) (λx lo hi R hl hn e r=>?_) ‹1› ‹1› (λi hi=>mono i (hint+last) ‹1› a3 a4) (λi hi hn=>?_) λk k1 k2 k3=>?_)
   ·dsimp only
    rw [if_pos hl]
    exact wpS_pure r
   ·dsimp only
    rw [if_neg ‹1›]
    refine wpS_bind (bey _ ‹1› ?_)
    rw [e]
    exact wpS_pure r
   ·dsimp only
    rw [if_neg ‹1›]
    refine wpS_bind (bey _ ‹1› ?_)
    rw [e]
    exact wpS_pure r
   ·exact dmono (hint+ofs) i ‹1› hn (a5 ‹1›)
   ·exact wpS_pure (h k k1 k2 k3)
 | false=>
  rw [if_neg (by decide)]
  refine wpS_bind (wpS_mono (wpS_forRange (I:=λi c st'=>st'=st/\∃last ofs,c=(none,last,ofs)/\last < ofs/\i < ofs/\last<=hint/\β (hint - last)=false)
   (Q:=λc st'=>st'=st/\∃last ofs,c=(none,last,ofs)/\last < ofs/\last<=hint/\β (hint - last)=false/\(ofs<=hint->β (hint - ofs)=true)) ?step ?fin ⟨rfl,0,1,rfl,by omega,by omega,by omega,eh⟩) ?post)
  case fin=>
   rintro c st' ⟨rfl,last,ofs,rfl,a1,a2,a3,a4⟩
   exact⟨rfl,last,ofs,rfl,a1,a3,a4,λ_=>by omega⟩
  case step=>
   rintro i c st' _ hi ⟨rfl,last,ofs,rfl,a1,a2,a3,a4⟩
   dsimp only
   by_cases hm:ofs>=hint+1
   ·rw [if_pos hm]
    exact wpS_pure ⟨rfl,last,ofs,rfl,a1,a3,a4,λ_=>by omega⟩
   ·rw [if_neg hm]
    refine wpS_bind (bey (hint - ofs) ‹1› ?_)
    dsimp only
    cases eo:β (hint - ofs) with
    | false=>
     rw [if_neg (by decide)]
     exact wpS_pure ⟨rfl,ofs,2 * ofs+1,rfl,by omega,by omega,by omega,eo⟩
    | true=>
     rw [if_pos rfl]
     exact wpS_pure ⟨rfl,last,ofs,rfl,a1,a3,a4,λ_=>eo⟩
  case post=>
   rintro c st' ⟨rfl,last,ofs,rfl,a1,a3,a4,a5⟩
   dsimp only
   refine wpS_bind (zo β mono (λx lo hi R hl r=>?_) (λx lo hi R hl hn e r=>?_) (λx lo hi R hl hn e r=>?_) ‹1› ‹1› (λi hi=>?_) (λi hi hn=>dmono (hint - last) i hi hn a4) λk k1 k2 k3=>?_)
   ·dsimp only
    rw [if_pos hl]
    exact wpS_pure r
   ·dsimp only
    rw [if_neg ‹1›]
    refine wpS_bind (bey _ ‹1› ?_)
    rw [e]
    exact wpS_pure r
   ·dsimp only
    rw [if_neg ‹1›]
    refine wpS_bind (bey _ ‹1› ?_)
    rw [e]
    exact wpS_pure r
   ·exact mono i (hint - ofs) ‹1› ‹1› (a5 ‹1›)
   ·exact wpS_pure (h k k1 k2 k3)
end
structure SG [Rk] (a₀:Array Keyed) (p:Array (Nat × Nat × Nat)) (st:SortSt):Prop where
 pm:(arrOf st).Perm a₀
 kd:kindOf st=Rk.kd
 fl:failedOf st=none
 pd:pendingOf st=p
theorem SG.sz [Rk] {a₀ p st} (g:SG a₀ p st):(arrOf st).size=a₀.size:=g.pm.size_eq
theorem SG.arr [Rk] {a₀ p st} (g:SG a₀ p st){xs:Array Keyed} (hp:xs.Perm (arrOf st)):SG a₀ p (setArr st xs):=⟨hp.trans g.pm,g.kd,g.fl,g.pd⟩
theorem SG.get [Rk] {a₀ p st} (g:SG a₀ p st) (h0:dI a₀){i:Nat} (hi:i < a₀.size):∃t q,(arrOf st)[i]?=some (t,q)/\Rk.rk t=Kr (arrOf st) i/\Rk.ok t:=by
 have hi':i < (arrOf st).size:=by rw [g.sz];exact hi
 have hn:=h0 _ ((Array.perm_iff_toList_perm.mp g.pm).mem_iff.mp (show (arrOf st)[i]∈_ by simp))
 have e:=getElem?_pos (arrOf st) i hi'
 refine⟨(arrOf st)[i].1,(arrOf st)[i].2,e,?_,hn⟩
 unfold Kr
 rw [e]
def Ris [Rk] (xs:Array Keyed) (a b:Nat):Prop:=∀i j,a<=i->i<=j->j < b->Kr xs i<=Kr xs j
def Fal [Rk] (xs:Array Keyed) (a b:Nat):Prop:=∀i j,a<=i->i<=j->j < b->Kr xs j<=Kr xs i
def Low [Rk] (xs ys:Array Keyed) (lo:Nat):Prop:=∀k,k < lo->Kr xs k=Kr ys k
theorem Low.rfl' [Rk] {xs:Array Keyed} {lo}:Low xs xs lo:=λ_ _=>rfl
theorem Low.then [Rk] {xs ys zs:Array Keyed} {lo} (h:Low xs ys lo) (g:Low ys zs lo):Low xs zs lo:=λk hk=>(h k hk).trans (g k hk)
theorem Ris.one [Rk] {xs:Array Keyed} {a b} (h:b<=a+1):Ris xs a b:=λi j h1 h2 h3=>by
 have:i=j:=by omega
 rw [this];exact Int.le_refl _
theorem jJ [Rk] {xs:Array Keyed}{lo i j:Nat} (hj:j<=xs.size) (hl:lo<=i):Low (mirror xs i j ((j - i) / 2)) xs lo:=λk hk=>by
 rw [fN hj,if_neg ‹1›]
section
variable {prog:Program}{w:World}{A:Around}{E:Value->Shared->Prop}{s:Shared} [RkOk prog w A s] {a₀:Array Keyed}{p:Array (Nat × Nat × Nat)}
theorem ltG {st:SortSt}{i j:Nat}{Q:Option Bool->SortSt->Prop} (g:SG a₀ p st) (h0:dI a₀) (hi:i < a₀.size) (hj:j < a₀.size)
  (h:Q (some (decide (Kr (arrOf st) i < Kr (arrOf st) j))) st):wpS (model prog w) A E s (ltAt' i j) Q st:=by
 obtain⟨x,p1,e1,o1⟩:=g.get h0 hi
 obtain⟨y,p2,e2,o2⟩:=g.get h0 hj
 rw [ltAt'_eq]
 refine wpS_bind (wpS_get ?_)
 show wpS _ _ _ _ (do let x <- elem' (arrOf st) i;let y <- elem' (arrOf st) j;lt' x y) Q st
 rw [elem'_eq,elem'_eq,e1,e2]
 exact wpS_bind (wpS_pure (wpS_bind (wpS_pure (oi g.kd o1 o2 h))))
theorem xE {st:SortSt}{i j:Nat}{Q:Unit->SortSt->Prop} (h:Q () (setArr st (mirror (arrOf st) i j ((j - i) / 2)))):wpS (model prog w) A E s (reverseSlice' i j) Q st:=by
 rw [reverseSlice'_eq]
 exact wpS_modify h
noncomputable def wP (lo a nrem:Nat):StateT SortSt Sem (Option (Option Nat) × Nat):=
 forIn [a:nrem] ((none,a):Option (Option Nat) × Nat) λ_ c=>do
  let x <- ltAt' (lo+c.snd) (lo+c.snd - 1)
  match x with
  | some less=>if less=true then pure (ForInStep.done (none,c.snd)) else pure (ForInStep.yield (none,c.snd+1))
  | _=>pure (ForInStep.done (some none,c.snd))
noncomputable def wt (lo n nrem:Nat):StateT SortSt Sem (Option Nat):=do
 reverseSlice' lo (lo+n)
 let c <- wP lo n nrem
 match c.fst with
 | some r=>pure r
 | none=>pure (some c.snd)
noncomputable def rh (lo n nrem:Nat):StateT SortSt Sem (Option (Option Nat) × Nat × Nat):=
 forIn [n:nrem] ((none,n,0):Option (Option Nat) × Nat × Nat) λ_ c=>do
  let x <- ltAt' (lo+c.snd.fst) (lo+c.snd.fst - 1)
  match x with
  | some less=>
   if less=true then
    if c.snd.snd > 0 then do
     reverseSlice' (lo+c.snd.fst - (c.snd.snd+1)) (lo+c.snd.fst)
     pure (ForInStep.yield (none,c.snd.fst+1,0))
    else pure (ForInStep.yield (none,c.snd.fst+1,0))
   else do
    let x <- ltAt' (lo+c.snd.fst - 1) (lo+c.snd.fst)
    match x with
    | some more=>
     if more=true then pure (ForInStep.done (none,c.snd.fst,c.snd.snd))
     else pure (ForInStep.yield (none,c.snd.fst+1,c.snd.snd+1))
    | _=>pure (ForInStep.done (some none,c.snd.fst,c.snd.snd))
  | _=>pure (ForInStep.done (some none,c.snd.fst,c.snd.snd))
noncomputable def oG (lo n nrem:Nat):StateT SortSt Sem (Option Nat):=do
 liftM (rule "list.sort.descending-run")
 let c <- rh lo (n+1) nrem
 match c.fst with
 | some r=>pure r
 | none=>
  if c.snd.snd > 0 then do
   reverseSlice' (lo+c.snd.fst - (c.snd.snd+1)) (lo+c.snd.fst)
   wt lo c.snd.fst nrem
  else wt lo c.snd.fst nrem
theorem sO (lo nrem:Nat):countRun' lo nrem=(do
  let c <- wP lo 1 nrem
  match c.fst with
  | some r=>pure r
  | none=>
   if (c.snd == nrem)=true then pure (some c.snd)
   else if c.snd > 1 then do
    let x <- ltAt' lo (lo+c.snd - 1)
    match x with
    | some rose=>if rose=true then pure (some c.snd) else do
      reverseSlice' lo (lo+c.snd)
      oG lo c.snd nrem
    | _=>pure none
   else oG lo c.snd nrem):=by
 rw [countRun'_eq]
 dsimp only
 unfold oG wt rh wP
 congr 1
 funext c
 obtain⟨r,n⟩:=c
 cases r with
 | some r=>rfl
 | none=>
  dsimp only
  split
  ·rfl
  ·split
   ·congr 1
    funext x
    cases x with
    | none=>rfl
    | some rose=>
     dsimp only
     split
     ·rfl
     ·congr 1;funext _;congr 1;funext _;congr 1;funext c2
      obtain⟨r2,n2,q2⟩:=c2
      cases r2 with
      | some r2=>rfl
      | none=>
       dsimp only
       split
       ·congr 1;funext _;congr 1;funext _;congr 1;funext c3
        obtain⟨r3,n3⟩:=c3
        cases r3 <;> rfl
       ·congr 1;funext _;congr 1;funext c3
        obtain⟨r3,n3⟩:=c3
        cases r3 <;> rfl
   ·congr 1;funext _;congr 1;funext c2
    obtain⟨r2,n2,q2⟩:=c2
    cases r2 with
    | some r2=>rfl
    | none=>
     dsimp only
     split
     ·congr 1;funext _;congr 1;funext _;congr 1;funext c3
      obtain⟨r3,n3⟩:=c3
      cases r3 <;> rfl
     ·congr 1;funext _;congr 1;funext c3
      obtain⟨r3,n3⟩:=c3
      cases r3 <;> rfl
theorem qz {st:SortSt}{lo a nrem:Nat}{Q:Option (Option Nat) × Nat->SortSt->Prop} (h0:dI a₀) (hn:lo+nrem<=a₀.size) (ha:1<=a) (han:a<=nrem) (g:SG a₀ p st)
  (hs:Ris (arrOf st) lo (lo+a))
  (h:∀n,a<=n->n<=nrem->Ris (arrOf st) lo (lo+n)->(n=nrem\/Kr (arrOf st) (lo+n) < Kr (arrOf st) (lo+n - 1))->Q (none,n) st) :
  wpS (model prog w) A E s (wP lo a nrem) Q st:=by
 unfold wP
 refine wpS_forRange (I:=λx c u=>u=st/\c=(none,x)/\Ris (arrOf st) lo (lo+x)) ?step ?fin ⟨rfl,rfl,hs⟩
 case fin=>
  rintro c u ⟨rfl,rfl,r⟩
  rw [Nat.max_eq_right han]at r ⊢
  exact h nrem han (Nat.le_refl _) r (.inl rfl)
 case step=>
  rintro x c u ax xn ⟨rfl,rfl,r⟩
  dsimp only
  refine wpS_bind (ltG g h0 ‹1› ‹1› ?_)
  by_cases less:Kr (arrOf u) (lo+x) < Kr (arrOf u) (lo+x - 1)
  ·rw [decide_eq_true less]
   try dsimp only
   exact wpS_pure (h x ax ‹1› r (.inr less))
  ·rw [decide_eq_false less]
   refine wpS_pure ⟨rfl,rfl,λi j h1 h2 h3=>?_⟩
   by_cases hj:j < lo+x
   ·exact r i j h1 h2 hj
   ·have ej:j=lo+x:=by omega
    by_cases ei:i=j
    ·rw [ei];exact Int.le_refl _
    ·rw [ej]
     exact Int.le_trans (r i (lo+x - 1) h1 ‹1› ‹1›) (Int.not_lt.mp less)
theorem qy {st:SortSt}{lo n nrem:Nat}{Q:Option Nat->SortSt->Prop} (h0:dI a₀) (hn:lo+nrem<=a₀.size) (h1:1<=n) (hnn:n<=nrem) (g:SG a₀ p st)
  (hs:Fal (arrOf st) lo (lo+n)) (h:∀m u,SG a₀ p u->Low (arrOf u) (arrOf st) lo->1<=m->m<=nrem->Ris (arrOf u) lo (lo+m)->Q (some m) u) :
  wpS (model prog w) A E s (wt lo n nrem) Q st:=by
 unfold wt
 have sz:lo+n<=(arrOf st).size:=by rw [g.sz];omega
 refine wpS_bind (xE ?_)
 have g':SG a₀ p (setArr st (mirror (arrOf st) lo (lo+n) ((lo+n - lo) / 2))):=g.arr (mirror_perm _ _ _ _)
 refine wpS_bind (qz h0 hn h1 hnn g' (λi j a1 a2 a3=>?_) λm m1 m2 m3 _=>wpS_pure (h m _ g' (jJ sz (Nat.le_refl _)) ‹1› m2 m3))
 show Kr (mirror (arrOf st) lo (lo+n) _) i<=Kr (mirror (arrOf st) lo (lo+n) _) j
 rw [fN sz,fN sz,if_pos ⟨a1,by omega⟩,if_pos ⟨by omega,a3⟩]
 exact hs _ _ ‹1› ‹1› ‹1›
theorem t7 {st:SortSt}{lo n nrem:Nat}{Q:Option (Option Nat) × Nat × Nat->SortSt->Prop} (h0:dI a₀) (hn:lo+nrem<=a₀.size) (h1:1<=n) (hnn:n<=nrem) (g:SG a₀ p st)
  (hs:Fal (arrOf st) lo (lo+n))
  (h:∀m q u,SG a₀ p u->Low (arrOf u) (arrOf st) lo->n<=m->m<=nrem->Fal (arrOf u) lo (lo+m)->q+1<=m->(∀i,lo+m - (q+1)<=i->i < lo+m->Kr (arrOf u) i=Kr (arrOf u) (lo+m - 1))->Q (none,m,q) u) :
  wpS (model prog w) A E s (rh lo n nrem) Q st:=by
 unfold rh
 refine wpS_forRange (I:=λx c u=>∃q,c=(none,x,q)/\SG a₀ p u/\Low (arrOf u) (arrOf st) lo/\Fal (arrOf u) lo (lo+x)/\q+1<=x/\
   (∀i,lo+x - (q+1)<=i->i < lo+x->Kr (arrOf u) i=Kr (arrOf u) (lo+x - 1))) ?step ?fin ⟨0,rfl,g,Low.rfl',hs,by omega,λi a1 a2=>by congr 1;omega⟩
 case fin=>
  rintro c u ⟨q,rfl,g1,l1,f1,q1,e1⟩
  rw [Nat.max_eq_right hnn]at f1 q1 e1 ⊢
  exact h nrem q u g1 l1 hnn (Nat.le_refl _) f1 q1 e1
 case step=>
  rintro x c u ax xn ⟨q,rfl,g1,l1,f1,q1,e1⟩
  dsimp only
  have sz:lo+x<=(arrOf u).size:=by rw [g1.sz];omega
  refine wpS_bind (ltG g1 h0 ‹1› ‹1› ?_)
  by_cases less:Kr (arrOf u) (lo+x) < Kr (arrOf u) (lo+x - 1)
  ·rw [decide_eq_true less]
   try dsimp only
   have st1:∀xs:Array Keyed,(∀k,Kr xs k=Kr (arrOf u) k)->Fal xs lo (lo+(x+1)):=by
    intro xs hk i j a1 a2 a3
    rw [hk,hk]
    by_cases hj:j < lo+x
    ·exact f1 i j a1 a2 hj
    ·have ej:j=lo+x:=by omega
     by_cases ei:i=j
     ·rw [ei];exact Int.le_refl _
     ·rw [ej]
      exact Int.le_trans (Int.le_of_lt less) (f1 i (lo+x - 1) a1 ‹1› ‹1›)
   by_cases hq:q > 0
   ·rw [if_pos rfl,if_pos hq]
    refine wpS_bind (xE (wpS_pure ⟨0,rfl,g1.arr (mirror_perm _ _ _ _),λk hk=>?_,st1 _ (bE sz e1),by omega,λi a1 a2=>by congr 1;omega⟩))
    exact(bE sz e1 k).trans (l1 k hk)
   ·rw [if_pos rfl,if_neg hq]
    exact wpS_pure ⟨0,rfl,g1,l1,st1 _ (λ_=>rfl),by omega,λi a1 a2=>by congr 1;omega⟩
  ·rw [decide_eq_false less]
   dsimp only
   rw [if_neg (by decide)]
   refine wpS_bind (ltG g1 h0 ‹1› ‹1› ?_)
   by_cases more:Kr (arrOf u) (lo+x - 1) < Kr (arrOf u) (lo+x)
   ·rw [decide_eq_true more]
    exact wpS_pure (h x q u g1 l1 ax ‹1› f1 q1 e1)
   ·rw [decide_eq_false more]
    have ex:Kr (arrOf u) (lo+x)=Kr (arrOf u) (lo+x - 1):=by omega
    refine wpS_pure ⟨q+1,rfl,g1,l1,λi j a1 a2 a3=>?_,by omega,λi a1 a2=>?_⟩
    ·by_cases hj:j < lo+x
     ·exact f1 i j a1 a2 hj
     ·have ej:j=lo+x:=by omega
      by_cases ei:i=j
      ·rw [ei];exact Int.le_refl _
      ·rw [ej,ex];exact f1 i (lo+x - 1) a1 ‹1› ‹1›
    ·rw [show lo+(x+1) - 1=lo+x by omega]
     by_cases ei:i=lo+x
     ·rw [ei]
     ·rw [ex];exact e1 i ‹1› ‹1›
theorem mU {st:SortSt}{lo n nrem:Nat}{Q:Option Nat->SortSt->Prop} (h0:dI a₀) (hn:lo+nrem<=a₀.size) (hnn:n+1<=nrem) (g:SG a₀ p st)
  (hs:Fal (arrOf st) lo (lo+(n+1))) (h:∀m u,SG a₀ p u->Low (arrOf u) (arrOf st) lo->1<=m->m<=nrem->Ris (arrOf u) lo (lo+m)->Q (some m) u) :
  wpS (model prog w) A E s (oG lo n nrem) Q st:=by
 unfold oG
 refine wpS_bind (wpS_lift (wpAny_rule ⟨rfl,?_⟩))
 refine wpS_bind (t7 h0 hn ‹1› hnn g hs λm q u g1 l1 m1 m2 f1 q1 e1=>?_)
 dsimp only
 have sz:lo+m<=(arrOf u).size:=by rw [g1.sz];omega
 by_cases hq:q > 0
 ·rw [if_pos hq]
  refine wpS_bind (xE (qy h0 hn ‹1› m2 (g1.arr (mirror_perm _ _ _ _)) (λi j a1 a2 a3=>?_) λm' u' g2 l2 k1 k2 k3=>h m' u' g2 (λk hk=>?_) k1 k2 k3))
  ·show Kr (mirror (arrOf u) _ _ _) j<=Kr (mirror (arrOf u) _ _ _) i
   rw [bE sz e1,bE sz e1]
   exact f1 i j a1 a2 a3
  ·exact((l2 k hk).trans (bE sz e1 k)).trans (l1 k hk)
 ·rw [if_neg hq]
  exact qy h0 hn ‹1› m2 g1 f1 λm' u' g2 l2=>h m' u' g2 (l2.then l1)
theorem rK {st:SortSt}{lo nrem:Nat}{Q:Option Nat->SortSt->Prop} (h0:dI a₀) (hn:lo+nrem<=a₀.size) (h1:1<=nrem) (g:SG a₀ p st)
  (h:∀m u,SG a₀ p u->Low (arrOf u) (arrOf st) lo->1<=m->m<=nrem->Ris (arrOf u) lo (lo+m)->Q (some m) u) :
  wpS (model prog w) A E s (countRun' lo nrem) Q st:=by
 rw [sO]
 refine wpS_bind (qz h0 hn (Nat.le_refl 1) h1 g (Ris.one (Nat.le_refl _)) λn n1 n2 r1 o1=>?_)
 dsimp only
 by_cases hnn:n=nrem
 ·rw [if_pos (by simpa using hnn)]
  exact wpS_pure (h n st g Low.rfl' n1 n2 r1)
 ·rw [if_neg (by simpa using hnn)]
  have less:=o1.resolve_left hnn
  by_cases hgt:n > 1
  ·rw [if_pos hgt]
   refine wpS_bind (ltG g h0 ‹1› ‹1› ?_)
   by_cases rose:Kr (arrOf st) lo < Kr (arrOf st) (lo+n - 1)
   ·rw [decide_eq_true rose]
    exact wpS_pure (h n st g Low.rfl' n1 n2 r1)
   ·rw [decide_eq_false rose]
    dsimp only
    rw [if_neg (by decide)]
    have sz:lo+n<=(arrOf st).size:=by rw [g.sz];omega
    have all:∀k,lo<=k->k < lo+n->Kr (arrOf st) k=Kr (arrOf st) (lo+n - 1):=by
     intro k k1 k2
     have b1:=r1 lo k (Nat.le_refl _) k1 k2
     have b2:=r1 k (lo+n - 1) k1 ‹1› ‹1›
     omega
    refine wpS_bind (xE (mU h0 hn ‹1› (g.arr (mirror_perm _ _ _ _)) (λi j a1 a2 a3=>?_) λm u g2 l2=>h m u g2 (l2.then (jJ sz (Nat.le_refl _)))))
    show Kr (mirror (arrOf st) _ _ _) j<=Kr (mirror (arrOf st) _ _ _) i
    rw [bE sz all,bE sz all]
    by_cases hj:j < lo+n
    ·rw [all i a1 ‹1›,all j ‹1› hj];exact Int.le_refl _
    ·have ej:j=lo+n:=by omega
     by_cases ei:i=j
     ·rw [ei];exact Int.le_refl _
     ·rw [all i a1 ‹1›,ej];exact Int.le_of_lt less
  ·rw [if_neg hgt]
   have en:n=1:=by omega
   subst en
   refine mU h0 hn ‹1› g (λi j a1 a2 a3=>?_) h
   by_cases ei:i=j
   ·rw [ei];exact Int.le_refl _
   ·rw [show i=lo+1 - 1 by omega,show j=lo+1 by omega]
    exact Int.le_of_lt less
theorem wW {st:SortSt}{lo n ok:Nat}{Q:Bool->SortSt->Prop} (h0:dI a₀) (hn:lo+n<=a₀.size) (hok:ok<=n) (g:SG a₀ p st) (hs:Ris (arrOf st) lo (lo+ok))
  (h:∀u,SG a₀ p u->Low (arrOf u) (arrOf st) lo->Ris (arrOf u) lo (lo+n)->Q true u):wpS (model prog w) A E s (binarySort' lo n ok) Q st:=by
 rw [binarySort'_eq]
 dsimp only
 refine wpS_bind (wpS_mono (wpS_forRange (I:=λk c u=>c=(none,())/\SG a₀ p u/\Low (arrOf u) (arrOf st) lo/\Ris (arrOf u) lo (lo+min k n))
  (Q:=λc u=>c=(none,())/\SG a₀ p u/\Low (arrOf u) (arrOf st) lo/\Ris (arrOf u) lo (lo+n)) ?step ?fin ?init) ?post)
 case post=>
  rintro c u ⟨rfl,g1,l1,r1⟩
  exact wpS_pure (h u g1 l1 r1)
 case init=>
  refine⟨rfl,g,Low.rfl',?_⟩
  by_cases e:ok=0
  ·exact Ris.one ‹1›
  ·exact λi j a1 a2 a3=>hs i j a1 a2 ‹1›
 case fin=>
  rintro c u ⟨hc,g1,l1,r1⟩
  exact⟨hc,g1,l1,λi j a1 a2 a3=>r1 i j a1 a2 ‹1›⟩
 case step=>
  rintro k c u ak kn ⟨rfl,g1,l1,r1⟩
  rw [Nat.min_eq_left (Nat.le_of_lt kn)]at r1
  try dsimp only
  refine wpS_bind (wpS_mono (wpS_forRange (I:=λx c v=>v=u/\∃l r,c=(none,l,r)/\l<=r/\r<=k/\r - l<=k - x/\
    (∀i,lo<=i->i < lo+l->Kr (arrOf u) i<=Kr (arrOf u) (lo+k))/\(∀i,lo+r<=i->i < lo+k->Kr (arrOf u) (lo+k) < Kr (arrOf u) i))
   (Q:=λc v=>v=u/\∃l r,c=(none,l,r)/\l<=k/\
    (∀i,lo<=i->i < lo+l->Kr (arrOf u) i<=Kr (arrOf u) (lo+k))/\(∀i,lo+l<=i->i < lo+k->Kr (arrOf u) (lo+k) < Kr (arrOf u) i)) ?istep ?ifin ?iinit) ?ipost)
  case iinit=>exact⟨rfl,0,k,rfl,by omega,by omega,by omega,λi _ _=>by omega,λi _ _=>by omega⟩
  case ifin=>
   rintro c v ⟨rfl,l,r,rfl,b1,b2,b3,b4,b5⟩
   have e:l=r:=by omega
   subst e
   exact⟨rfl,l,l,rfl,b2,b4,b5⟩
  case istep=>
   rintro x c v _ xk ⟨rfl,l,r,rfl,b1,b2,b3,b4,b5⟩
   dsimp only
   by_cases ge:l>=r
   ·rw [if_pos ge]
    have e:l=r:=by omega
    subst e
    exact wpS_pure ⟨rfl,l,l,rfl,b2,b4,b5⟩
   ·rw [if_neg ge]
    refine wpS_bind (ltG g1 h0 ‹1› ‹1› ?_)
    by_cases less:Kr (arrOf v) (lo+k) < Kr (arrOf v) (lo+(l+r) / 2)
    ·rw [decide_eq_true less]
     refine wpS_pure ⟨rfl,l,(l+r) / 2,rfl,by omega,by omega,by omega,b4,λi a1 a2=>?_⟩
     exact Int.lt_of_lt_of_le less (r1 _ _ ‹1› a1 a2)
    ·rw [decide_eq_false less]
     refine wpS_pure ⟨rfl,(l+r) / 2+1,r,rfl,by omega,by omega,by omega,λi a1 a2=>?_,b5⟩
     exact Int.le_trans (r1 i (lo+(l+r) / 2) a1 ‹1› ‹1›) (Int.not_lt.mp less)
  case ipost=>
   rintro c v ⟨rfl,l,r,rfl,b1,b2,b3⟩
   dsimp only
   rw [moveDown'_eq]
   have sz:lo+k < (arrOf v).size:=by rw [g1.sz];omega
   refine wpS_bind (wpS_modify (wpS_pure ⟨rfl,g1.arr (bubble_perm _ _ _),λi hi=>?_,λi j a1 a2 a3=>?_⟩))
   ·refine Eq.trans ?_ (l1 i hi)
    show Kr (bubble (arrOf v) (lo+k) (lo+k - (lo+l))) i=_
    rw [iz sz ‹1›,if_neg ‹1›,if_neg ‹1›]
   ·show Kr (bubble (arrOf v) (lo+k) (lo+k - (lo+l))) i<=Kr (bubble (arrOf v) (lo+k) (lo+k - (lo+l))) j
    rw [iz sz ‹1›,iz sz ‹1›,show lo+k - (lo+k - (lo+l))=lo+l from Nat.sub_sub_self ‹1›]
    have a4:j < lo+(k+1):=by omega
    repeat' split
    all_goals first
     | (exfalso;omega)
     | exact Int.le_refl _
     | exact b2 _ ‹1› ‹1›
     | exact Int.le_of_lt (b3 _ ‹1› ‹1›)
     | exact r1 _ _ ‹1› ‹1› ‹1›
end
noncomputable def ky [Rk] (q:Keyed):Int:=Rk.rk q.1
theorem yD [Rk] {xs:Array Keyed}{i:Nat}{q:Keyed} (h:xs[i]?=some q):Kr xs i=ky q:=by
 unfold Kr ky;rw [h]
structure Mg [Rk] (a b out:Array Keyed):Prop where
 pm:out.toList.Perm (a.toList++b.toList)
 so:(out.toList.map ky).Pairwise (·<=·)
structure LoI [Rk] (a b out:Array Keyed) (ia ib:Nat):Prop where
 pm:out.toList.Perm (a.toList.take ia++b.toList.take ib)
 so:(out.toList.map ky).Pairwise (·<=·)
 ba:∀o∈out.toList,∀i,ia<=i->i < a.size->ky o<=Kr a i
 bb:∀o∈out.toList,∀j,ib<=j->j < b.size->ky o<=Kr b j
theorem bp (a:Array Keyed) (i k:Nat):(a.extract i (i+k)).toList=(a.toList.drop i).take k:=by
 rw [Array.toList_extract,List.extract_eq_take_drop,Nat.add_sub_cancel_left]
theorem bo [Rk] {a:Array Keyed}{i k:Nat}{o:Keyed} (h:o∈(a.toList.drop i).take k):∃j,i<=j/\j < i+k/\j < a.size/\ky o=Kr a j:=by
 obtain⟨n,hn,e⟩:=List.getElem_of_mem h
 rw [List.length_take,List.length_drop,Array.length_toList]at hn
 refine⟨i+n,by omega,by omega,by omega,?_⟩
 rw [yD (q:=o)]
 rw [List.getElem_take,List.getElem_drop]at e
 rw [<- e]
 simp only [Array.getElem_toList]
 rw [getElem?_pos a (i+n) ‹1›]
theorem gJ [Rk] {a:Array Keyed} (r:Ris a 0 a.size) (i k:Nat):(((a.toList.drop i).take k).map ky).Pairwise (·<=·):=by
 rw [List.pairwise_iff_getElem]
 intro m n hm hn hmn
 rw [List.length_map,List.length_take,List.length_drop,Array.length_toList]at hm hn
 rw [List.getElem_map,List.getElem_map,List.getElem_take,List.getElem_take,List.getElem_drop,List.getElem_drop]
 have h:=r (i+m) (i+n) ‹1› ‹1› ‹1›
 rw [yD (getElem?_pos a (i+m) ‹1›),yD (getElem?_pos a (i+n) ‹1›)]at h
 exact h
theorem je (l:List Keyed) (i k:Nat):l.take (i+k)=l.take i++(l.drop i).take k:=by
 rw [List.take_add]
theorem LoI.takeA [Rk] {a b out:Array Keyed}{ia ib k:Nat} (h:LoI a b out ia ib) (ra:Ris a 0 a.size) (rb:Ris b 0 b.size) (hb:∀i,ia<=i->i < ia+k->i < a.size->ib < b.size->Kr a i<=Kr b ib) :
  LoI a b (out++a.extract ia (ia+k)) (ia+k) ib:=by
 refine⟨?_,?_,?_,?_⟩
 ·rw [Array.toList_append,bp,je]
  refine(h.pm.append_right _).trans ?_
  rw [List.append_assoc,List.append_assoc]
  exact List.Perm.append_left _ List.perm_append_comm
 ·rw [Array.toList_append,bp,List.map_append,List.pairwise_append]
  refine⟨h.so,gJ ra _ _,λx hx y hy=>?_⟩
  obtain⟨o,ho,rfl⟩:=List.mem_map.mp hx
  obtain⟨q,hq,rfl⟩:=List.mem_map.mp hy
  obtain⟨j,j1,j2,j3,e⟩:=bo hq
  rw [e]
  exact h.ba o ho j j1 j3
 ·intro o ho i i1 i2
  rw [Array.toList_append,bp]at ho
  rcases List.mem_append.mp ho with ho | ho
  ·exact h.ba o ho i ‹1› i2
  ·obtain⟨j,j1,j2,j3,e⟩:=bo ho
   rw [e]
   exact ra j i ‹1› ‹1› i2
 ·intro o ho i i1 i2
  rw [Array.toList_append,bp]at ho
  rcases List.mem_append.mp ho with ho | ho
  ·exact h.bb o ho i i1 i2
  ·obtain⟨j,j1,j2,j3,e⟩:=bo ho
   rw [e]
   exact Int.le_trans (hb j j1 j2 j3 ‹1›) (rb ib i ‹1› i1 i2)
theorem LoI.takeB [Rk] {a b out:Array Keyed}{ia ib k:Nat} (h:LoI a b out ia ib) (ra:Ris a 0 a.size) (rb:Ris b 0 b.size) (hb:∀i,ib<=i->i < ib+k->i < b.size->ia < a.size->Kr b i<=Kr a ia) :
  LoI a b (out++b.extract ib (ib+k)) ia (ib+k):=by
 refine⟨?_,?_,?_,?_⟩
 ·rw [Array.toList_append,bp,je,<- List.append_assoc]
  exact h.pm.append_right _
 ·rw [Array.toList_append,bp,List.map_append,List.pairwise_append]
  refine⟨h.so,gJ rb _ _,λx hx y hy=>?_⟩
  obtain⟨o,ho,rfl⟩:=List.mem_map.mp hx
  obtain⟨q,hq,rfl⟩:=List.mem_map.mp hy
  obtain⟨j,j1,j2,j3,e⟩:=bo hq
  rw [e]
  exact h.bb o ho j j1 j3
 ·intro o ho i i1 i2
  rw [Array.toList_append,bp]at ho
  rcases List.mem_append.mp ho with ho | ho
  ·exact h.ba o ho i i1 i2
  ·obtain⟨j,j1,j2,j3,e⟩:=bo ho
   rw [e]
   exact Int.le_trans (hb j j1 j2 j3 ‹1›) (ra ia i ‹1› i1 i2)
 ·intro o ho i i1 i2
  rw [Array.toList_append,bp]at ho
  rcases List.mem_append.mp ho with ho | ho
  ·exact h.bb o ho i ‹1› i2
  ·obtain⟨j,j1,j2,j3,e⟩:=bo ho
   rw [e]
   exact rb j i ‹1› ‹1› i2
theorem dA {a out:Array Keyed}{i:Nat}{x:Keyed} (h:a[i]?=some x):out.push x=out++a.extract i (i+1):=by
 apply Array.ext'
 obtain⟨hi,e⟩:=Array.getElem?_eq_some_iff.mp h
 rw [Array.toList_push,Array.toList_append,bp,List.drop_eq_getElem_cons (by rw [Array.length_toList];exact hi)]
 rw [List.take_succ_cons,List.take_zero,Array.getElem_toList,e]
theorem LoI.fin [Rk] {a b out:Array Keyed} (h:LoI a b out a.size b.size):Mg a b out:=by
 refine⟨?_,h.so⟩
 have:=h.pm
 rwa [List.take_of_length_le (by simp),List.take_of_length_le (by simp)]at this
theorem LoI.done [Rk] {a b out:Array Keyed}{ia ib:Nat} (h:LoI a b out ia ib) (ra:Ris a 0 a.size) (rb:Ris b 0 b.size) (ha:ia<=a.size) (hb:ib=b.size) :
  Mg a b (out++a.extract ia a.size++b.extract ib b.size):=by
 have h1:=(h.takeA (k:=a.size - ia) ra rb λi _ _ _ hh=>by omega).takeB (k:=b.size - ib) ra rb λi _ _ _ hh=>by omega
 rw [show ia+(a.size - ia)=a.size from Nat.add_sub_of_le ‹1›,show ib+(b.size - ib)=b.size from Nat.add_sub_of_le ‹1›]at h1
 exact h1.fin
theorem LoI.lastA [Rk] {a b out:Array Keyed}{ia ib:Nat} (h:LoI a b out ia ib) (ra:Ris a 0 a.size) (rb:Ris b 0 b.size) (ha:ia+1=a.size) (hb:ib<=b.size)
  (hl:∀j,j < b.size->Kr b j<=Kr a (a.size - 1)):Mg a b (out++b.extract ib b.size++a.extract ia a.size):=by
 have h1:=(h.takeB (k:=b.size - ib) ra rb λi _ _ hi _=>by rw [show ia=a.size - 1 by omega];exact hl i hi).takeA (k:=a.size - ia) ra rb λi _ _ _ hh=>by omega
 rw [show ia+(a.size - ia)=a.size from Nat.add_sub_of_le ‹1›,show ib+(b.size - ib)=b.size from Nat.add_sub_of_le ‹1›]at h1
 exact h1.fin
structure HiI [Rk] (a b o:Array Keyed) (na nb:Nat):Prop where
 pm:o.toList.Perm (a.toList.drop na++b.toList.drop nb)
 so:(o.toList.map ky).Pairwise (·<=·)
 ba:∀q∈o.toList,∀i,i < na->i < a.size->Kr a i<=ky q
 bb:∀q∈o.toList,∀j,j < nb->j < b.size->Kr b j<=ky q
theorem dF (l:List Keyed) (i k:Nat):l.drop i=(l.drop i).take k++l.drop (i+k):=by
 rw [<- List.drop_drop,List.take_append_drop]
theorem HiI.takeA [Rk] {a b o:Array Keyed}{na nb i k:Nat} (h:HiI a b o na nb) (e:na=i+k) (ra:Ris a 0 a.size) (rb:Ris b 0 b.size) (hn:nb<=b.size) (hb:∀j,i<=j->j < na->j < a.size->0 < nb->Kr b (nb - 1)<=Kr a j) :
  HiI a b (a.extract i na++o) i nb:=by
 subst e
 refine⟨?_,?_,?_,?_⟩
 ·rw [Array.toList_append,bp]
  refine(List.Perm.append_left _ h.pm).trans ?_
  rw [<- List.append_assoc,<- dF]
 ·rw [Array.toList_append,bp,List.map_append,List.pairwise_append]
  refine⟨gJ ra _ _,h.so,λx hx y hy=>?_⟩
  obtain⟨q,hq,rfl⟩:=List.mem_map.mp hx
  obtain⟨p,hp,rfl⟩:=List.mem_map.mp hy
  obtain⟨j,j1,j2,j3,e⟩:=bo hq
  rw [e]
  exact h.ba p hp j j2 j3
 ·intro q hq j j1 j2
  rw [Array.toList_append,bp]at hq
  rcases List.mem_append.mp hq with hq | hq
  ·obtain⟨m,m1,m2,m3,e⟩:=bo hq
   rw [e]
   exact ra j m ‹1› ‹1› m3
  ·exact h.ba q hq j ‹1› j2
 ·intro q hq j j1 j2
  rw [Array.toList_append,bp]at hq
  rcases List.mem_append.mp hq with hq | hq
  ·obtain⟨m,m1,m2,m3,e⟩:=bo hq
   rw [e]
   exact Int.le_trans (rb j (nb - 1) ‹1› ‹1› ‹1›) (hb m m1 m2 m3 ‹1›)
  ·exact h.bb q hq j j1 j2
theorem HiI.takeB [Rk] {a b o:Array Keyed}{na nb i k:Nat} (h:HiI a b o na nb) (e:nb=i+k) (ra:Ris a 0 a.size) (rb:Ris b 0 b.size) (hn:na<=a.size) (hb:∀j,i<=j->j < nb->j < b.size->0 < na->Kr a (na - 1)<=Kr b j) :
  HiI a b (b.extract i nb++o) na i:=by
 subst e
 refine⟨?_,?_,?_,?_⟩
 ·rw [Array.toList_append,bp]
  refine(List.Perm.append_left _ h.pm).trans ?_
  rw [dF b.toList i k,<- List.append_assoc,<- List.append_assoc,<- dF]
  exact List.Perm.append_right _ List.perm_append_comm
 ·rw [Array.toList_append,bp,List.map_append,List.pairwise_append]
  refine⟨gJ rb _ _,h.so,λx hx y hy=>?_⟩
  obtain⟨q,hq,rfl⟩:=List.mem_map.mp hx
  obtain⟨p,hp,rfl⟩:=List.mem_map.mp hy
  obtain⟨j,j1,j2,j3,e⟩:=bo hq
  rw [e]
  exact h.bb p hp j j2 j3
 ·intro q hq j j1 j2
  rw [Array.toList_append,bp]at hq
  rcases List.mem_append.mp hq with hq | hq
  ·obtain⟨m,m1,m2,m3,e⟩:=bo hq
   rw [e]
   exact Int.le_trans (ra j (na - 1) ‹1› ‹1› ‹1›) (hb m m1 m2 m3 ‹1›)
  ·exact h.ba q hq j j1 j2
 ·intro q hq j j1 j2
  rw [Array.toList_append,bp]at hq
  rcases List.mem_append.mp hq with hq | hq
  ·obtain⟨m,m1,m2,m3,e⟩:=bo hq
   rw [e]
   exact rb j m ‹1› ‹1› m3
  ·exact h.bb q hq j ‹1› j2
theorem fh {a out:Array Keyed}{i:Nat}{x:Keyed} (h:a[i]?=some x):(out.push x).reverse=a.extract i (i+1)++out.reverse:=by
 rw [dA h,Array.reverse_append]
 congr 1
 apply Array.ext'
 rw [Array.toList_reverse,bp]
 obtain⟨hi,e⟩:=Array.getElem?_eq_some_iff.mp h
 rw [List.drop_eq_getElem_cons (by rw [Array.length_toList];exact hi)]
 rw [List.take_succ_cons,List.take_zero]
 rfl
theorem qP (out x:Array Keyed):(out++x.reverse).reverse=x++out.reverse:=by
 rw [Array.reverse_append,Array.reverse_reverse]
theorem HiI.fin [Rk] {a b o:Array Keyed} (h:HiI a b o 0 0):Mg a b o:=⟨h.pm,h.so⟩
theorem HiI.done [Rk] {a b o:Array Keyed}{na nb:Nat} (h:HiI a b o na nb) (ra:Ris a 0 a.size) (rb:Ris b 0 b.size) (ha:na=0) (hb:nb<=b.size) :
  Mg a b (a.extract 0 na++b.extract 0 nb++o):=by
 have h1:=(h.takeB (i:=0) (k:=nb) ‹1› ra rb ‹1› λj _ _ _ hh=>by omega).takeA (i:=0) (k:=na) ‹1› ra rb ‹1› λj _ _ _ hh=>by omega
 rw [<- Array.append_assoc]at h1
 exact h1.fin
theorem HiI.firstB [Rk] {a b o:Array Keyed}{na nb:Nat} (h:HiI a b o na nb) (ra:Ris a 0 a.size) (rb:Ris b 0 b.size) (ha:na<=a.size) (hb:nb=1) (hz:0 < b.size)
  (hl:∀j,j < a.size->Kr b 0<=Kr a j):Mg a b (b.extract 0 nb++a.extract 0 na++o):=by
 subst hb
 have h1:=(h.takeA (i:=0) (k:=na) ‹1› ra rb ‹1› λj _ _ hj _=>hl j hj).takeB (i:=0) (k:=1) ‹1› ra rb ‹1› λj _ _ _ hh=>by omega
 rw [<- Array.append_assoc]at h1
 exact h1.fin
noncomputable def loX:Array Keyed->Array Keyed->StateT SortSt Sem (Array Keyed):=sortPriv% PySem.Builtin.mergeLo
noncomputable def hiX:Array Keyed->Array Keyed->StateT SortSt Sem (Array Keyed):=sortPriv% PySem.Builtin.mergeHi
noncomputable def BD:Nat->StateT SortSt Sem Unit:=sortPriv% PySem.Builtin.setMinGallop
def IK [Rk] (a:Array Keyed):Prop:=∀i,i < a.size->∃t q,a[i]?=some (t,q)/\Rk.rk t=Kr a i/\Rk.ok t
structure SS [Rk] (st u:SortSt):Prop where
 ar:arrOf u=arrOf st
 pd:pendingOf u=pendingOf st
 kd:kindOf u=Rk.kd
 fl:failedOf u=none
section
variable {prog:Program}{w:World}{A:Around}{E:Value->Shared->Prop}{s:Shared} [RkOk prog w A s]
theorem cu {st:SortSt}{arr:Array Keyed}{i:Nat}{x:Keyed}{Q:Keyed->SortSt->Prop} (h:arr[i]?=some x) (q:Q x st):wpS (model prog w) A E s (elem' arr i) Q st:=by
 rw [elem'_eq,h]
 exact wpS_pure q
theorem qM {st u:SortSt}{g:Nat}{Q:Unit->SortSt->Prop} (h:SS st u) (q:∀v,SS st v->Q () v):wpS (model prog w) A E s (BD g) Q u:=by
 unfold BD
 k_delta "setMinGallop"
 exact wpS_modify (q _ ⟨h.ar,h.pd,h.kd,h.fl⟩)
theorem B3 {st u:SortSt}{arr:Array Keyed}{c:Int}{t:Value}{q:Value}{base n hint:Nat}{Q:Option Nat->SortSt->Prop} (g:SS st u) (hc:Rk.rk t=c/\Rk.ok t) (ik:IK arr) (hn:base+n<=arr.size) (r:Ris arr base (base+n)) (hh:hint < n)
  (h:∀k,k<=n->(∀i,i < k->Kr arr (base+i)<=c)->(∀i,k<=i->i < n->c < Kr arr (base+i))->Q (some k) u) :
  wpS (model prog w) A E s (j6 false (t,q) arr base n hint) Q u:=by
 refine jN (λi=>!decide (c < Kr arr (base+i))) hh (λi R hi hr=>?_) (λi j hij hj e=>?_) λk k1 k2 k3=>h k k1 (λi hi=>?_) λi i1 i2=>?_
 ·obtain⟨t2,q2,e,oe⟩:=ik (base+i) ‹1›
  refine wpS_bind (cu e ?_)
  rw [if_neg (by decide)]
  exact wpS_bind (oi g.kd hc oe (wpS_pure hr))
 ·have:=r (base+i) (base+j) ‹1› ‹1› ‹1›
  simp only [Bool.not_eq_true',decide_eq_false_iff_not]at e ⊢
  omega
 ·have:=k2 i hi
  simp only [Bool.not_eq_true',decide_eq_false_iff_not]at this
  omega
 ·have:=k3 i i1 i2
  simpa using this
theorem B2 {st u:SortSt}{arr:Array Keyed}{c:Int}{t:Value}{q:Value}{base n hint:Nat}{Q:Option Nat->SortSt->Prop} (g:SS st u) (hc:Rk.rk t=c/\Rk.ok t) (ik:IK arr) (hn:base+n<=arr.size) (r:Ris arr base (base+n)) (hh:hint < n)
  (h:∀k,k<=n->(∀i,i < k->Kr arr (base+i) < c)->(∀i,k<=i->i < n->c<=Kr arr (base+i))->Q (some k) u) :
  wpS (model prog w) A E s (j6 true (t,q) arr base n hint) Q u:=by
 refine jN (λi=>decide (Kr arr (base+i) < c)) hh (λi R hi hr=>?_) (λi j hij hj e=>?_) λk k1 k2 k3=>h k k1 (λi hi=>?_) λi i1 i2=>?_
 ·obtain⟨t2,q2,e,oe⟩:=ik (base+i) ‹1›
  refine wpS_bind (cu e ?_)
  rw [if_pos rfl]
  exact oi g.kd oe hc hr
 ·have:=r (base+i) (base+j) ‹1› ‹1› ‹1›
  simp only [decide_eq_true_eq]at e ⊢
  omega
 ·simpa using k2 i hi
 ·have:=k3 i i1 i2
  simp only [decide_eq_false_iff_not]at this
  omega
theorem Ris.sub [Rk] {xs:Array Keyed}{a b c d:Nat} (r:Ris xs a b) (h1:a<=c) (h2:d<=b):Ris xs c d:=λi j x y z=>r i j ‹1› y ‹1›
theorem Bk {a b:Array Keyed}{st u:SortSt}{Q:Array Keyed->SortSt->Prop} (g:SS st u) (ia:IK a) (ib:IK b) (ra:Ris a 0 a.size) (rb:Ris b 0 b.size) (za:0 < a.size) (zb:0 < b.size)
  (hf:∀i,i < a.size->Kr b 0<=Kr a i) (hl:∀j,j < b.size->Kr b j < Kr a (a.size - 1))
  (h:∀out v,SS st v->Mg a b out->Q out v):wpS (model prog w) A E s (loX a b) Q u:=by
 unfold loX
 k_delta "mergeLo"
 dsimp only
 refine wpS_bind (wpS_lift (wpAny_rule ⟨rfl,?_⟩))
 obtain⟨t0,q0,e0,oe0⟩:=ib 0 zb
 refine wpS_bind (cu e0 ?_)
 have L0:LoI a b #[(t0,q0)] 0 1:=by
  have:=(LoI.takeB (a:=a) (b:=b) (out:=#[]) (ia:=0) (ib:=0) (k:=1) ⟨by simp,by simp,by simp,by simp⟩ ra rb λi i1 i2 i3 i4=>by rw [show i=0 by omega];exact hf 0 i4)
  rw [<- dA e0]at this
  exact this
 by_cases b1:1=b.size
 ·rw [if_pos (by simpa using b1)]
  exact wpS_pure (h _ _ g (L0.done ra rb ‹1› b1))
 rw [if_neg (by simpa using b1)]
 by_cases a1:0+1=a.size
 ·rw [if_pos (by simpa using a1)]
  exact wpS_pure (h _ _ g (L0.lastA ra rb a1 ‹1› λj hj=>Int.le_of_lt (hl j hj)))
 rw [if_neg (by simpa using a1)]
 refine wpS_bind (wpS_get ?_)
 refine wpS_bind (wpS_mono (wpS_forRange (I:=λx c v=>SS st v/\∃out i j m,c=(none,out,i,j,m)/\LoI a b out i j/\i+1 < a.size/\j < b.size/\x+1<=i+j)
  (Q:=λc v=>SS st v/\∃r out i j m,c=(some r,out,i,j,m)/\Mg a b r) ?step ?fin ⟨g,_,0,1,_,rfl,L0,by omega,by omega,by omega⟩) ?post)
 case post=>
  rintro c v ⟨g',r,out,i,j,m,rfl,hm⟩
  exact wpS_pure (h r v g' hm)
 case fin=>
  rintro c v ⟨g',out,i,j,m,rfl,L,x1,x2,x3⟩
  exfalso
  omega
 case step=>
  rintro x c v _ xn ⟨g1,out,i,j,m,rfl,L,x1,x2,x3⟩
  dsimp only
  refine wpS_bind (wpS_mono (wpS_forRange (I:=λy c v=>SS st v/\∃out i' j' ac bc,c=(none,out,i',j',ac,bc)/\LoI a b out i' j'/\i'+1 < a.size/\j' < b.size/\i+j+y<=i'+j')
   (Q:=λc v=>SS st v/\∃o out i' j' ac bc,c=(o,out,i',j',ac,bc)/\((∃r,o=some r/\Mg a b r)\/(o=none/\LoI a b out i' j'/\i'+1 < a.size/\j' < b.size/\i+j+1<=i'+j'))) ?step1 ?fin1 ⟨g1,out,i,j,0,0,rfl,L,x1,x2,by omega⟩) ?post1)
  case fin1=>
   rintro c v ⟨g',out,i',j',ac,bc,rfl,L',y1,y2,y3⟩
   exact⟨g',_,out,i',j',ac,bc,rfl,.inr ⟨rfl,L',y1,y2,by omega⟩⟩
  case step1=>
   rintro y c v _ yn ⟨g2,out,i',j',ac,bc,rfl,L',y1,y2,y3⟩
   dsimp only
   obtain⟨tb,qb,eb,oeb⟩:=ib j' y2
   obtain⟨ta,qa,ea,oea⟩:=ia i' ‹1›
   refine wpS_bind (cu eb ?_)
   refine wpS_bind (cu ea ?_)
   refine wpS_bind (oi g2.kd oeb oea ?_)
   by_cases less:Kr b j' < Kr a i'
   ·rw [decide_eq_true less]
    dsimp only
    rw [if_pos rfl]
    refine wpS_bind (cu eb ?_)
    have L2:=L'.takeB (k:=1) ra rb λn n1 n2 n3 n4=>by rw [show n=j' by omega];exact Int.le_of_lt less
    rw [<- dA eb]at L2
    by_cases eb1:j'+1=b.size
    ·rw [if_pos (by simpa using eb1)]
     exact wpS_pure ⟨g2,_,_,_,_,_,_,rfl,.inl ⟨_,rfl,L2.done ra rb ‹1› eb1⟩⟩
    ·rw [if_neg (by simpa using eb1)]
     split
     ·exact wpS_pure ⟨g2,_,_,_,_,_,_,rfl,.inr ⟨rfl,L2,y1,by omega,by omega⟩⟩
     ·exact wpS_pure ⟨g2,_,_,_,_,_,rfl,L2,y1,by omega,by omega⟩
   ·rw [decide_eq_false less]
    dsimp only
    rw [if_neg (by decide)]
    refine wpS_bind (cu ea ?_)
    have L2:=L'.takeA (k:=1) ra rb λn n1 n2 n3 n4=>by rw [show n=i' by omega];omega
    rw [<- dA ea]at L2
    by_cases ea1:i'+1+1=a.size
    ·rw [if_pos (by simpa using ea1)]
     exact wpS_pure ⟨g2,_,_,_,_,_,_,rfl,.inl ⟨_,rfl,L2.lastA ra rb ea1 ‹1› λj hj=>Int.le_of_lt (hl j hj)⟩⟩
    ·rw [if_neg (by simpa using ea1)]
     split
     ·exact wpS_pure ⟨g2,_,_,_,_,_,_,rfl,.inr ⟨rfl,L2,by omega,y2,by omega⟩⟩
     ·exact wpS_pure ⟨g2,_,_,_,_,_,rfl,L2,by omega,y2,by omega⟩
  case post1=>
   rintro c v ⟨g2,o,out,i',j',ac,bc,rfl,(⟨r,rfl,hm⟩ | ⟨rfl,L',y1,y2,y3⟩)⟩
   ·exact wpS_pure ⟨g2,_,_,_,_,_,rfl,hm⟩
   dsimp only
   refine wpS_bind (wpS_lift (wpAny_rule ⟨rfl,?_⟩))
   refine wpS_bind (wpS_mono (wpS_forRange (I:=λy c v=>SS st v/\∃out i' j' mg ac bc,c=(none,out,i',j',mg,ac,bc)/\LoI a b out i' j'/\i'+1 < a.size/\j' < b.size/\i+j+1<=i'+j')
    (Q:=λc v=>SS st v/\∃o out i' j' mg ac bc,c=(o,out,i',j',mg,ac,bc)/\((∃r,o=some r/\Mg a b r)\/(o=none/\LoI a b out i' j'/\i'+1 < a.size/\j' < b.size/\i+j+1<=i'+j'))) ?step2 ?fin2 ⟨g2,out,i',j',_,ac,bc,rfl,L',y1,y2,y3⟩) ?post2)
   case fin2=>
    rintro c v ⟨g',out,i',j',mg,ac,bc,rfl,L',y1,y2,y3⟩
    exact⟨g',_,out,i',j',mg,ac,bc,rfl,.inr ⟨rfl,L',y1,y2,y3⟩⟩
   case post2=>
    rintro c v ⟨g3,o,out,i',j',mg,ac,bc,rfl,(⟨r,rfl,hm⟩ | ⟨rfl,L',y1,y2,y3⟩)⟩
    ·exact wpS_pure ⟨g3,_,_,_,_,_,rfl,hm⟩
    dsimp only
    refine wpS_bind (qM g3 λv2 g4=>?_)
    exact wpS_pure ⟨g4,_,_,_,_,rfl,L',y1,y2,by omega⟩
   case step2=>
    rintro y c v _ yn ⟨g3,out,i',j',mg,ac,bc,rfl,L',y1,y2,y3⟩
    dsimp only
    obtain⟨tb,qb,eb,oeb⟩:=ib j' y2
    refine Decidable.byCases (p:=mg > 1) (λhmg=>?tA) (λhmg=>?tB)
    case' tA=>
     rw [if_pos hmg]
     clear hmg
     generalize mg - 1=mg'
     revert mg'
    case tB=>
     rw [if_neg hmg]
     exact ?tA mg
    case tA=>
     intro mg'
     refine wpS_bind (qM g3 λv2 g4=>?_)
     refine wpS_bind (cu eb ?_)
     refine wpS_bind (B3 g4 oeb ia ‹1› (ra.sub ‹1› ‹1›) ‹1› λk k1 k2 k3=>?_)
     dsimp only
     have kz:i'+k < a.size:=by
      apply Classical.byContradiction
      intro hk
      have e1:=k2 (a.size - 1 - i') ‹1›
      rw [show i'+(a.size - 1 - i')=a.size - 1 from Nat.add_sub_of_le ‹1›]at e1
      have e2:=hl j' y2
      omega
     have kl:Kr b j' < Kr a (i'+k):=k3 k (Nat.le_refl _) ‹1›
     have L2:=L'.takeA (k:=k) ra rb λn n1 n2 n3 n4=>by
      have:=k2 (n - i') ‹1›
      rwa [show i'+(n - i')=n from Nat.add_sub_of_le ‹1›]at this
     refine Decidable.byCases (p:=k > 0) (λhk=>?uA) (λhk=>?uB)
     case' uA=>
      rw [if_pos hk]
      by_cases ea1:i'+k+1=a.size
      ·rw [if_pos (by simpa using ea1)]
       exact wpS_pure ⟨g4,_,_,_,_,_,_,_,rfl,.inl ⟨_,rfl,L2.lastA ra rb ea1 ‹1› λj hj=>Int.le_of_lt (hl j hj)⟩⟩
      rw [if_neg (by simpa using ea1),if_neg (by simp only [beq_iff_eq];omega)]
      have I1:i'+k+1 < a.size:=by omega
      have I2:i+j+1<=i'+k+j':=by omega
      clear ea1 hk kz
      revert L2 kl I1 I2
      generalize out++a.extract i' (i'+k)=O
      generalize i'+k=I
      clear k1 k2 k3
      revert O I
      skip
     case uB=>
      rw [if_neg hk]
      have e:k=0:=by omega
      rw [e,Nat.add_zero]at kl
      exact ?uA out i' kl L' y1 y3
     case uA=>
      intro O I kl L2 I1 I2
      refine wpS_bind (cu eb ?_)
      have L3:=L2.takeB (k:=1) ra rb λn n1 n2 n3 n4=>by rw [show n=j' by omega];exact Int.le_of_lt kl
      by_cases eb1:j'+1=b.size
      ·rw [if_pos (by simpa using eb1)]
       rw [<- dA eb]at L3
       exact wpS_pure ⟨g4,_,_,_,_,_,_,_,rfl,.inl ⟨_,rfl,L3.done ra rb ‹1› eb1⟩⟩
      rw [if_neg (by simpa using eb1)]
      rw [<- dA eb]at L3
      obtain⟨ta,qa,ea,oea⟩:=ia I ‹1›
      refine wpS_bind (cu ea ?_)
      refine wpS_bind (B2 g4 oea ib ‹1› (rb.sub ‹1› ‹1›) ‹1› λm m1 m2 m3=>?_)
      dsimp only
      have L4:=L3.takeB (k:=m) ra rb λn n1 n2 n3 n4=>by
       have:=m2 (n - (j'+1)) ‹1›
       rw [show j'+1+(n - (j'+1))=n from Nat.add_sub_of_le ‹1›]at this
       exact Int.le_of_lt this
      refine Decidable.byCases (p:=m > 0) (λhm=>?vA) (λhm=>?vB)
      case' vA=>
       rw [if_pos hm]
       by_cases eb2:j'+1+m=b.size
       ·rw [if_pos (by simpa using eb2)]
        exact wpS_pure ⟨g4,_,_,_,_,_,_,_,rfl,.inl ⟨_,rfl,L4.done ra rb ‹1› eb2⟩⟩
       rw [if_neg (by simpa using eb2)]
       have L5:=L4.takeA (k:=1) ra rb λn n1 n2 n3 n4=>by
        rw [show n=I by omega];exact m3 m (Nat.le_refl _) ‹1›
       have J1:j'+1+m < b.size:=by omega
       have J2:i+j+1<=I+1+(j'+1+m):=by omega
       clear eb2 hm L4
       revert L5 J1 J2
       generalize O.push (tb,qb)++b.extract (j'+1) (j'+1+m)=O2
       generalize j'+1+m=J
       revert O2 J
      case vB=>
       rw [if_neg hm]
       have L5:=L3.takeA (k:=1) ra rb λn n1 n2 n3 n4=>by
        rw [show n=I by omega];exact m3 0 ‹1› ‹1›
       exact ?vA _ (j'+1) L5 ‹1› ‹1›
      case vA=>
       intro O2 J L5 J1 J2
       refine wpS_bind (cu ea ?_)
       rw [<- dA ea]at L5
       by_cases ea2:I+1+1=a.size
       ·rw [if_pos (by simpa using ea2)]
        exact wpS_pure ⟨g4,_,_,_,_,_,_,_,rfl,.inl ⟨_,rfl,L5.lastA ra rb ea2 (Nat.le_of_lt J1) λj hj=>Int.le_of_lt (hl j hj)⟩⟩
       rw [if_neg (by simpa using ea2)]
       split
       ·exact wpS_pure ⟨g4,_,_,_,_,_,_,_,rfl,.inr ⟨rfl,L5,by omega,J1,J2⟩⟩
       ·exact wpS_pure ⟨g4,_,_,_,_,_,_,rfl,L5,by omega,J1,J2⟩
end
section
variable {prog:Program}{w:World}{A:Around}{E:Value->Shared->Prop}{s:Shared} [RkOk prog w A s]
theorem Bl {a b:Array Keyed}{st u:SortSt}{Q:Array Keyed->SortSt->Prop} (g:SS st u) (ia:IK a) (ib:IK b) (ra:Ris a 0 a.size) (rb:Ris b 0 b.size) (za:0 < a.size) (zb:0 < b.size)
  (hf:∀i,i < a.size->Kr b 0 < Kr a i) (hl:∀j,j < b.size->Kr b j < Kr a (a.size - 1))
  (h:∀out v,SS st v->Mg a b out->Q out v):wpS (model prog w) A E s (hiX a b) Q u:=by
 unfold hiX
 k_delta "mergeHi"
 dsimp only
 refine wpS_bind (wpS_lift (wpAny_rule ⟨rfl,?_⟩))
 obtain⟨t0,q0,e0,oe0⟩:=ia (a.size - 1) ‹1›
 refine wpS_bind (cu e0 ?_)
 have hf':∀j,j < a.size->Kr b 0<=Kr a j:=λj hj=>Int.le_of_lt (hf j hj)
 have L0:HiI a b (Array.reverse #[(t0,q0)]) (a.size - 1) b.size:=by
  have:=(HiI.takeA (a:=a) (b:=b) (o:=(#[]:Array Keyed).reverse) (na:=a.size) (nb:=b.size) (i:=a.size - 1) (k:=1) ⟨by simp,by simp,by simp,by simp⟩ ‹1› ra rb ‹1› λj i1 i2 i3 i4=>by rw [show j=a.size - 1 by omega];exact Int.le_of_lt (hl _ ‹1›))
  have e1:=fh (out:=#[]) e0
  rw [show a.size - 1+1=a.size by omega]at e1
  rw [<- e1]at this
  exact this
 by_cases a1:a.size - 1=0
 ·rw [if_pos (by simpa using a1)]
  exact wpS_pure (h _ _ g (L0.done ra rb a1 ‹1›))
 rw [if_neg (by simpa using a1)]
 by_cases b1:b.size=1
 ·rw [if_pos (by simpa using b1)]
  exact wpS_pure (h _ _ g (L0.firstB ra rb ‹1› b1 zb hf'))
 rw [if_neg (by simpa using b1)]
 refine wpS_bind (wpS_get ?_)
 refine wpS_bind (wpS_mono (wpS_forRange (I:=λx c v=>SS st v/\∃i j out m,c=(none,i,j,out,m)/\HiI a b out.reverse i j/\0 < i/\i<=a.size/\1 < j/\j<=b.size/\i+j+x+1<=a.size+b.size)
  (Q:=λc v=>SS st v/\∃r i j out m,c=(some r,i,j,out,m)/\Mg a b r) ?step ?fin ⟨g,_,_,_,_,rfl,L0,by omega,by omega,by omega,by omega,by omega⟩) ?post)
 case post=>
  rintro c v ⟨g',r,i,j,out,m,rfl,hm⟩
  exact wpS_pure (h r v g' hm)
 case fin=>
  rintro c v ⟨g',i,j,out,m,rfl,L,x1,x2,x3,x4,x5⟩
  exfalso
  omega
 case step=>
  rintro x c v _ xn ⟨g1,i,j,out,m,rfl,L,x1,x2,x3,x4,x5⟩
  dsimp only
  refine wpS_bind (wpS_mono (wpS_forRange (I:=λy c v=>SS st v/\∃i' j' out ac bc,c=(none,i',j',out,ac,bc)/\HiI a b out.reverse i' j'/\0 < i'/\i'<=a.size/\1 < j'/\j'<=b.size/\i'+j'+y<=i+j)
   (Q:=λc v=>SS st v/\∃o i' j' out ac bc,c=(o,i',j',out,ac,bc)/\((∃r,o=some r/\Mg a b r)\/(o=none/\HiI a b out.reverse i' j'/\0 < i'/\i'<=a.size/\1 < j'/\j'<=b.size/\i'+j'+1<=i+j))) ?step1 ?fin1 ⟨g1,i,j,out,0,0,rfl,L,x1,x2,x3,x4,by omega⟩) ?post1)
  case fin1=>
   rintro c v ⟨g',i',j',out,ac,bc,rfl,L',y1,y2,y3,y4,y5⟩
   exact⟨g',_,i',j',out,ac,bc,rfl,.inr ⟨rfl,L',y1,y2,y3,y4,by omega⟩⟩
  case step1=>
   rintro y c v _ yn ⟨g2,i',j',out,ac,bc,rfl,L',y1,y2,y3,y4,y5⟩
   dsimp only
   obtain⟨tb,qb,eb,oeb⟩:=ib (j' - 1) ‹1›
   obtain⟨ta,qa,ea,oea⟩:=ia (i' - 1) ‹1›
   refine wpS_bind (cu eb ?_)
   refine wpS_bind (cu ea ?_)
   refine wpS_bind (oi g2.kd oeb oea ?_)
   by_cases less:Kr b (j' - 1) < Kr a (i' - 1)
   ·rw [decide_eq_true less]
    dsimp only
    rw [if_pos rfl]
    refine wpS_bind (cu ea ?_)
    have L2:=L'.takeA (i:=i' - 1) (k:=1) ‹1› ra rb y4 λn n1 n2 n3 n4=>by rw [show n=i' - 1 by omega];exact Int.le_of_lt less
    have e1:=fh (out:=out) ea
    rw [show i' - 1+1=i' by omega]at e1
    rw [<- e1]at L2
    by_cases ea1:i' - 1=0
    ·rw [if_pos (by simpa using ea1)]
     exact wpS_pure ⟨g2,_,_,_,_,_,_,rfl,.inl ⟨_,rfl,L2.done ra rb ea1 y4⟩⟩
    ·rw [if_neg (by simpa using ea1)]
     split
     ·exact wpS_pure ⟨g2,_,_,_,_,_,_,rfl,.inr ⟨rfl,L2,by omega,by omega,y3,y4,by omega⟩⟩
     ·exact wpS_pure ⟨g2,_,_,_,_,_,rfl,L2,by omega,by omega,y3,y4,by omega⟩
   ·rw [decide_eq_false less]
    dsimp only
    rw [if_neg (by decide)]
    refine wpS_bind (cu eb ?_)
    have L2:=L'.takeB (i:=j' - 1) (k:=1) ‹1› ra rb y2 λn n1 n2 n3 n4=>by rw [show n=j' - 1 by omega];omega
    have e1:=fh (out:=out) eb
    rw [show j' - 1+1=j' by omega]at e1
    rw [<- e1]at L2
    by_cases eb1:j' - 1=1
    ·rw [if_pos (by simpa using eb1)]
     exact wpS_pure ⟨g2,_,_,_,_,_,_,rfl,.inl ⟨_,rfl,L2.firstB ra rb y2 eb1 zb hf'⟩⟩
    ·rw [if_neg (by simpa using eb1)]
     split
     ·exact wpS_pure ⟨g2,_,_,_,_,_,_,rfl,.inr ⟨rfl,L2,y1,y2,by omega,by omega,by omega⟩⟩
     ·exact wpS_pure ⟨g2,_,_,_,_,_,rfl,L2,y1,y2,by omega,by omega,by omega⟩
  case post1=>
   rintro c v ⟨g2,o,i',j',out,ac,bc,rfl,(⟨r,rfl,hm⟩ | ⟨rfl,L',y1,y2,y3,y4,y5⟩)⟩
   ·exact wpS_pure ⟨g2,_,_,_,_,_,rfl,hm⟩
   dsimp only
   refine wpS_bind (wpS_lift (wpAny_rule ⟨rfl,?_⟩))
   refine wpS_bind (wpS_mono (wpS_forRange (I:=λy c v=>SS st v/\∃i' j' out mg ac bc,c=(none,i',j',out,mg,ac,bc)/\HiI a b out.reverse i' j'/\0 < i'/\i'<=a.size/\1 < j'/\j'<=b.size/\i'+j'+1<=i+j)
    (Q:=λc v=>SS st v/\∃o i' j' out mg ac bc,c=(o,i',j',out,mg,ac,bc)/\((∃r,o=some r/\Mg a b r)\/(o=none/\HiI a b out.reverse i' j'/\0 < i'/\i'<=a.size/\1 < j'/\j'<=b.size/\i'+j'+1<=i+j))) ?step2 ?fin2 ⟨g2,i',j',out,_,ac,bc,rfl,L',y1,y2,y3,y4,y5⟩) ?post2)
   case fin2=>
    rintro c v ⟨g',i',j',out,mg,ac,bc,rfl,L',y1,y2,y3,y4,y5⟩
    exact⟨g',_,i',j',out,mg,ac,bc,rfl,.inr ⟨rfl,L',y1,y2,y3,y4,y5⟩⟩
   case post2=>
    rintro c v ⟨g3,o,i',j',out,mg,ac,bc,rfl,(⟨r,rfl,hm⟩ | ⟨rfl,L',y1,y2,y3,y4,y5⟩)⟩
    ·exact wpS_pure ⟨g3,_,_,_,_,_,rfl,hm⟩
    dsimp only
    refine wpS_bind (qM g3 λv2 g4=>?_)
    exact wpS_pure ⟨g4,_,_,_,_,rfl,L',y1,y2,y3,y4,by omega⟩
   case step2=>
    rintro y c v _ yn ⟨g3,i',j',out,mg,ac,bc,rfl,L',y1,y2,y3,y4,y5⟩
    dsimp only
    obtain⟨tb,qb,eb,oeb⟩:=ib (j' - 1) ‹1›
    refine Decidable.byCases (p:=mg > 1) (λhmg=>?tA) (λhmg=>?tB)
    case' tA=>
     rw [if_pos hmg]
     clear hmg
     generalize mg - 1=mg'
     revert mg'
    case tB=>
     rw [if_neg hmg]
     exact ?tA mg
    case tA=>
     intro mg'
     refine wpS_bind (qM g3 λv2 g4=>?_)
     refine wpS_bind (cu eb ?_)
     refine wpS_bind (B3 g4 oeb ia ‹1› (ra.sub ‹1› ‹1›) ‹1› λk k1 k2 k3=>?_)
     dsimp only
     simp only [Nat.zero_add]at k2 k3
     have kl:0 < k->Kr a (k - 1)<=Kr b (j' - 1):=λhk=>k2 (k - 1) ‹1›
     have L2:=L'.takeA (i:=k) (k:=i' - k) ‹1› ra rb y4 λn n1 n2 n3 n4=>Int.le_of_lt (k3 n n1 n2)
     rw [<- qP]at L2
     refine Decidable.byCases (p:=i' - k > 0) (λhk=>?uA) (λhk=>?uB)
     case' uA=>
      rw [if_pos hk]
      by_cases ea1:k=0
      ·rw [if_pos (by simpa using ea1)]
       exact wpS_pure ⟨g4,_,_,_,_,_,_,_,rfl,.inl ⟨_,rfl,L2.done ra rb ea1 y4⟩⟩
      rw [if_neg (by simpa using ea1)]
      have kl1:=kl ‹1›
      have I1:0 < k:=by omega
      have I2:k<=a.size:=by omega
      have I3:k+j'+1<=i+j:=by omega
      clear ea1 hk
      revert L2 kl1 I1 I2 I3
      generalize out++(a.extract k i').reverse=O
      generalize i' - k=ct
      generalize k=I
      revert O ct I
     case uB=>
      rw [if_neg hk]
      have e:k=i':=by omega
      have kl1:=kl ‹1›
      rw [e]at kl1
      exact ?uA out _ i' L' kl1 y1 y2 y5
     case uA=>
      intro O ct I L2 kl I1 I2 I3
      refine wpS_bind (cu eb ?_)
      have L3:=L2.takeB (i:=j' - 1) (k:=1) ‹1› ra rb I2 λn n1 n2 n3 n4=>by rw [show n=j' - 1 by omega];exact kl
      have e1:=fh (out:=O) eb
      rw [show j' - 1+1=j' by omega]at e1
      rw [<- e1]at L3
      by_cases eb1:j' - 1=1
      ·rw [if_pos (by simpa using eb1)]
       exact wpS_pure ⟨g4,_,_,_,_,_,_,_,rfl,.inl ⟨_,rfl,L3.firstB ra rb I2 eb1 zb hf'⟩⟩
      rw [if_neg (by simpa using eb1)]
      obtain⟨ta,qa,ea,oea⟩:=ia (I - 1) ‹1›
      refine wpS_bind (cu ea ?_)
      refine wpS_bind (B2 g4 oea ib ‹1› (rb.sub ‹1› ‹1›) ‹1› λm m1 m2 m3=>?_)
      dsimp only
      simp only [Nat.zero_add]at m2 m3
      have mz:0 < m:=by
       apply Classical.byContradiction
       intro hm
       have:=m3 0 ‹1› ‹1›
       have:=hf (I - 1) ‹1›
       omega
      have L4:=L3.takeB (i:=m) (k:=j' - 1 - m) ‹1› ra rb I2 λn n1 n2 n3 n4=>m3 n n1 n2
      rw [<- qP]at L4
      refine Decidable.byCases (p:=j' - 1 - m > 0) (λhm=>?vA) (λhm=>?vB)
      case' vA=>
       rw [if_pos hm]
       by_cases eb2:m=1
       ·rw [if_pos (by simpa using eb2)]
        exact wpS_pure ⟨g4,_,_,_,_,_,_,_,rfl,.inl ⟨_,rfl,L4.firstB ra rb I2 eb2 zb hf'⟩⟩
       rw [if_neg (by simpa using eb2),if_neg (by simp only [beq_iff_eq];omega)]
       have L5:=L4.takeA (i:=I - 1) (k:=1) ‹1› ra rb ‹1› λn n1 n2 n3 n4=>by
        rw [show n=I - 1 by omega];exact Int.le_of_lt (m2 (m - 1) ‹1›)
       have J1:1 < m:=by omega
       have J2:m<=b.size:=by omega
       have J3:I - 1+m+1<=i+j:=by omega
       clear eb2 hm
       revert L5 J1 J2 J3
       generalize O.push (tb,qb)++(b.extract m (j' - 1)).reverse=O2
       generalize j' - 1 - m=ct2
       generalize m=M
       revert O2 ct2 M
      case vB=>
       rw [if_neg hm]
       have L5:=L3.takeA (i:=I - 1) (k:=1) ‹1› ra rb ‹1› λn n1 n2 n3 n4=>by
        rw [show n=I - 1 by omega]
        have:=m2 (j' - 1 - 1) ‹1›
        exact Int.le_of_lt this
       exact ?vA _ _ (j' - 1) L5 ‹1› ‹1› ‹1›
      case vA=>
       intro O2 ct2 M L5 J1 J2 J3
       refine wpS_bind (cu ea ?_)
       have e3:=fh (out:=O2) ea
       rw [show I - 1+1=I by omega]at e3
       rw [<- e3]at L5
       by_cases ea2:I - 1=0
       ·rw [if_pos (by simpa using ea2)]
        exact wpS_pure ⟨g4,_,_,_,_,_,_,_,rfl,.inl ⟨_,rfl,L5.done ra rb ea2 J2⟩⟩
       rw [if_neg (by simpa using ea2)]
       split
       ·exact wpS_pure ⟨g4,_,_,_,_,_,_,_,rfl,.inr ⟨rfl,L5,by omega,by omega,J1,J2,by omega⟩⟩
       ·exact wpS_pure ⟨g4,_,_,_,_,_,_,rfl,L5,by omega,by omega,J1,J2,by omega⟩
end
theorem me [Rk] {xs:Array Keyed}{a n:Nat} (h:a+n<=xs.size):Ris xs a (a+n)↔(((xs.toList.drop a).take n).map ky).Pairwise (·<=·):=by
 rw [List.pairwise_iff_getElem]
 have hk:∀i (hi:i < (((xs.toList.drop a).take n).map ky).length),(((xs.toList.drop a).take n).map ky)[i]=Kr xs (a+i):=by
  intro i hi
  rw [List.length_map,List.length_take,List.length_drop,Array.length_toList]at hi
  rw [List.getElem_map,List.getElem_take,List.getElem_drop,yD (getElem?_pos xs (a+i) ‹1›)]
  rfl
 constructor
 ·intro r i j hi hj hij
  rw [hk i hi,hk j hj]
  rw [List.length_map,List.length_take,List.length_drop,Array.length_toList]at hi hj
  exact r _ _ ‹1› ‹1› ‹1›
 ·intro r i j h1 h2 h3
  by_cases e:i=j
  ·rw [e];exact Int.le_refl _
  ·have hl:(((xs.toList.drop a).take n).map ky).length=n:=by
    rw [List.length_map,List.length_take,List.length_drop,Array.length_toList];omega
   have:=r (i - a) (j - a) ‹1› ‹1› ‹1›
   rw [hk,hk,show a+(i - a)=i from Nat.add_sub_of_le ‹1›,show a+(j - a)=j from Nat.add_sub_of_le ‹1›]at this
   exact this
theorem oC (base:Nat):∀(l:List Keyed) (n:Nat) (xs:Array Keyed),base+n+l.length<=xs.size->
  ((l.zipIdx n).foldl (λa x=>a.setIfInBounds (base+x.snd) x.fst) xs).toList=xs.toList.take (base+n)++l++xs.toList.drop (base+n+l.length)
 | [],n,xs,h=>by simp
 | x::l,n,xs,h=>by
  rw [List.length_cons]at h
  rw [List.zipIdx_cons,List.foldl_cons,oC base l (n+1) _ (by rw [Array.size_setIfInBounds];omega)]
  dsimp only
  rw [Array.toList_setIfInBounds,List.length_cons]
  have e1:(xs.toList.set (base+n) x).take (base+(n+1))=xs.toList.take (base+n)++[x]:=by
   apply List.ext_getElem?
   intro i
   rw [List.getElem?_take,List.getElem?_set,List.getElem?_append,List.getElem?_take]
   have hl:(xs.toList.take (base+n)).length=base+n:=by rw [List.length_take,Array.length_toList];exact Nat.min_eq_left ‹1›
   rw [hl]
   by_cases c1:i < base+n
   ·rw [if_pos ‹1›,if_neg ‹1›,if_pos c1,if_pos c1]
   ·by_cases c2:i=base+n
    ·subst c2
     rw [if_pos ‹1›,if_pos rfl,if_neg c1,Nat.sub_self,if_pos (by rw [Array.length_toList];omega)]
     rfl
    ·rw [if_neg ‹1›,if_neg c1]
     obtain⟨d,hd⟩:∃d,i - (base+n)=d+1:=⟨i - (base+n) - 1,by omega⟩
     rw [hd]
     simp
  have e2:(xs.toList.set (base+n) x).drop (base+(n+1)+l.length)=xs.toList.drop (base+n+(l.length+1)):=by
   rw [List.drop_set_of_lt ‹1›]
   congr 1
   omega
  rw [e1,e2]
  simp
theorem re {xs:Array Keyed}{a b i:Nat} (hb:b<=xs.size) (hi:i < b - a):(xs.extract a b)[i]?=xs[a+i]?:=by
 rw [Array.getElem?_extract,if_pos (by rw [Nat.min_eq_left hb];exact hi)]
theorem kj [Rk] {xs:Array Keyed}{a b i:Nat} (hb:b<=xs.size) (hi:i < b - a):Kr (xs.extract a b) i=Kr xs (a+i):=dM (re hb hi)
theorem gX {xs:Array Keyed}{a b:Nat} (hb:b<=xs.size):(xs.extract a b).size=b - a:=by
 rw [Array.size_extract,Nat.min_eq_left hb]
theorem mI [Rk] {xs:Array Keyed}{a b:Nat} (ik:IK xs) (hb:b<=xs.size):IK (xs.extract a b):=by
 intro i hi
 rw [gX hb]at hi
 obtain⟨t,q,e,oe⟩:=ik (a+i) ‹1›
 exact⟨t,q,by rw [re hb hi];exact e,by rw [kj hb hi];exact oe⟩
theorem iV [Rk] {xs:Array Keyed}{a b:Nat} (r:Ris xs a b) (hb:b<=xs.size):Ris (xs.extract a b) 0 (xs.extract a b).size:=by
 intro i j h1 h2 h3
 rw [gX hb]at h3
 rw [kj hb ‹1›,kj hb h3]
 exact r _ _ ‹1› ‹1› ‹1›
theorem qf (L:List Keyed){i j k:Nat} (h1:i<=j) (h2:j<=k):L=L.take i++((L.drop i).take (j - i)++(L.drop j).take (k - j))++L.drop k:=by
 have e1:L.drop i=(L.drop i).take (j - i)++L.drop j:=by
  have:=dF L i (j - i)
  rwa [show i+(j - i)=j from Nat.add_sub_of_le ‹1›]at this
 have e2:L.drop j=(L.drop j).take (k - j)++L.drop k:=by
  have:=dF L j (k - j)
  rwa [show j+(k - j)=k from Nat.add_sub_of_le ‹1›]at this
 calc L=L.take i++L.drop i:=(List.take_append_drop i L).symm
  _=L.take i++((L.drop i).take (j - i)++((L.drop j).take (k - j)++L.drop k)):=by rw [<- e2,<- e1]
  _=_:=by simp only [List.append_assoc]
theorem sA [Rk] {xs ys:Array Keyed}{M:Array Keyed}{sa sb na nb i k:Nat} (h1:sa<=i) (h2:i<=sb) (h3:sb<=k) (h4:k<=sb+nb) (h5:sb=sa+na) (hz:sb+nb<=xs.size)
  (m:Mg (xs.extract i sb) (xs.extract sb k) M) (e:ys.toList=xs.toList.take i++M.toList++xs.toList.drop k)
  (ra:Ris xs sa sb) (rb:Ris xs sb (sb+nb)) (lo:∀j,sa<=j->j < i->∀j',sb<=j'->j' < sb+nb->Kr xs j<=Kr xs j') (hi:∀j,sa<=j->j < sb->∀j',k<=j'->j' < sb+nb->Kr xs j<=Kr xs j') :
  ys.Perm xs/\Ris ys sa (sb+nb)/\(∀j,j < sa\/sb+nb<=j->Kr ys j=Kr xs j):=by
 have ex:(xs.extract i sb).toList=(xs.toList.drop i).take (sb - i):=by
  have:=bp xs i (sb - i)
  rwa [show i+(sb - i)=sb from Nat.add_sub_of_le ‹1›]at this
 have ey:(xs.extract sb k).toList=(xs.toList.drop sb).take (k - sb):=by
  have:=bp xs sb (k - sb)
  rwa [show sb+(k - sb)=k from Nat.add_sub_of_le ‹1›]at this
 have mp:=m.pm
 rw [ex,ey]at mp
 have ml:M.toList.length=k - i:=by
  rw [mp.length_eq,List.length_append,List.length_take,List.length_take,List.length_drop,List.length_drop,Array.length_toList,Nat.min_eq_left ‹1›,Nat.min_eq_left ‹1›]
  omega
 have pm:ys.toList.Perm xs.toList:=by
  rw [e]
  conv=>rhs;rw [qf xs.toList h2 h3]
  exact(mp.append_left _).append_right _
 have ysz:ys.size=xs.size:=by rw [<- Array.length_toList,<- Array.length_toList];exact pm.length_eq
 refine⟨Array.perm_iff_toList_perm.mpr pm,?_,?_⟩
 ·rw [show sb+nb=sa+(na+nb) by omega,me ‹1›]
  have el:(ys.toList.drop sa).take (na+nb)=(xs.toList.drop sa).take (i - sa)++(M.toList++(xs.toList.drop k).take (sb+nb - k)):=by
   rw [e,List.append_assoc,List.drop_append,List.take_append]
   have z:(xs.toList.take i).length=i:=by rw [List.length_take,Array.length_toList];exact Nat.min_eq_left ‹1›
   rw [z,show sa - i=0 by omega,List.drop_zero,List.drop_take,List.take_take]
   rw [List.length_take,List.length_drop,Array.length_toList,Nat.min_eq_right (show i - sa<=na+nb by omega),Nat.min_eq_left (show i - sa<=xs.size - sa by omega)]
   congr 1
   rw [List.take_append,ml]
   rw [List.take_of_length_le ‹1›,Nat.sub_sub,show i - sa+(k - i)=k - sa by omega,show na+nb - (k - sa)=sb+nb - k by rw [h5];omega]
  have mem:∀q∈M.toList,(∃j,i<=j/\j < sb/\ky q=Kr xs j)\/(∃j,sb<=j/\j < k/\ky q=Kr xs j):=by
   intro q hq
   rcases List.mem_append.mp (mp.mem_iff.mp hq) with hq | hq
   ·obtain⟨j,j1,j2,j3,e⟩:=bo hq
    exact .inl ⟨j,j1,by omega,e⟩
   ·obtain⟨j,j1,j2,j3,e⟩:=bo hq
    exact .inr ⟨j,j1,by omega,e⟩
  rw [el,List.map_append,List.map_append,List.pairwise_append,List.pairwise_append]
  refine⟨(me ‹1›).mp (ra.sub (Nat.le_refl _) ‹1›),⟨m.so,?_,?_⟩,?_⟩
  ·exact(me ‹1›).mp (rb.sub h3 ‹1›)
  ·intro x hx y hy
   obtain⟨q,hq,rfl⟩:=List.mem_map.mp hx
   obtain⟨p,hp,rfl⟩:=List.mem_map.mp hy
   obtain⟨j',a1,a2,a3,e'⟩:=bo hp
   rw [e']
   rcases mem q hq with⟨j,j1,j2,e⟩ | ⟨j,j1,j2,e⟩
   ·rw [e];exact hi j ‹1› j2 j' a1 ‹1›
   ·rw [e];exact rb j j' j1 ‹1› ‹1›
  ·intro x hx y hy
   obtain⟨q,hq,rfl⟩:=List.mem_map.mp hx
   rw [<- List.map_append]at hy
   obtain⟨p,hp,rfl⟩:=List.mem_map.mp hy
   obtain⟨j,j1,j2,j3,e⟩:=bo hq
   rw [e]
   rcases List.mem_append.mp hp with hp | hp
   ·rcases mem p hp with⟨j',a1,a2,e'⟩ | ⟨j',a1,a2,e'⟩
    ·rw [e'];exact ra j j' j1 ‹1› a2
    ·rw [e'];exact lo j j1 ‹1› j' a1 ‹1›
   ·obtain⟨j',a1,a2,a3,e'⟩:=bo hp
    rw [e'];exact lo j j1 ‹1› j' ‹1› ‹1›
 ·intro j hj
  apply dM
  rw [<- Array.getElem?_toList,<- Array.getElem?_toList,e]
  rcases hj with hj | hj
  ·rw [List.append_assoc,List.getElem?_append_left (by rw [List.length_take,Array.length_toList,Nat.min_eq_left ‹1›];omega),List.getElem?_take,if_pos ‹1›]
  ·rw [List.getElem?_append_right (by rw [List.length_append,List.length_take,Array.length_toList,ml,Nat.min_eq_left ‹1›];omega),List.length_append,List.length_take,Array.length_toList,ml,List.getElem?_drop,Nat.min_eq_left (show i<=xs.size by omega)]
   congr 1
   omega
section
variable {prog:Program}{w:World}{A:Around}{E:Value->Shared->Prop}{s:Shared} [RkOk prog w A s] {a₀:Array Keyed}{p:Array (Nat × Nat × Nat)}
theorem Bo {σ:Type}{st x:σ}{Q:PUnit->σ->Prop} (h:Q ⟨⟩ x):wpS (model prog w) A E s (set x:StateT σ Sem PUnit) Q st:=by
 unfold wpS;rw [StateT.run_set];exact zP0 ⟨rfl,h⟩
theorem Bm {st:SortSt}{i sa na sb nb w1 w2:Nat}{Q:Bool->SortSt->Prop} (h0:dI a₀) (g:SG a₀ p st) (e1:p[i]?=some (sa,na,w1)) (e2:p[i+1]?=some (sb,nb,w2))
  (h5:sb=sa+na) (hz:sb+nb<=a₀.size) (za:0 < na) (zb:0 < nb) (ra:Ris (arrOf st) sa sb) (rb:Ris (arrOf st) sb (sb+nb))
  (h:∀v,SG a₀ ((p.setIfInBounds i (sa,na+nb,w1)).eraseIdxIfInBounds (i+1)) v->Ris (arrOf v) sa (sb+nb)->(∀j,j < sa\/sb+nb<=j->Kr (arrOf v) j=Kr (arrOf st) j)->Q true v) :
  wpS (model prog w) A E s (mergeAt' i) Q st:=by
 unfold mergeAt'
 k_delta "mergeAt"
 dsimp only
 refine wpS_bind (wpS_get ?_)
 have hp:=g.pd
 have sz:=g.sz
 have ik:IK (arrOf st):=λj hj=>g.get h0 ‹1›
 obtain⟨tb,qb,eb,oeb⟩:=ik sb ‹1›
 obtain⟨ta,qa,ea,oea⟩:=ik (sb - 1) ‹1›
 have o1:(pendingOf st)[i]?=some (sa,na,w1):=by rw [hp];exact e1
 have o2:(pendingOf st)[i+1]?=some (sb,nb,w2):=by rw [hp];exact e2
 show wpS _ _ _ _ (match ((pendingOf st)[i]?,(pendingOf st)[i+1]?) with | (some (sa,na,power),some (sb,nb,snd))=>_ | _=>_) _ _
 rw [o1,o2]
 dsimp only
 refine wpS_bind (Bo ?_)
 have hp2:((pendingOf st).setIfInBounds i (sa,na+nb,w1)).eraseIdxIfInBounds (i+1)=(p.setIfInBounds i (sa,na+nb,w1)).eraseIdxIfInBounds (i+1):=by rw [hp]
 have g2:SG a₀ ((p.setIfInBounds i (sa,na+nb,w1)).eraseIdxIfInBounds (i+1)) (SortSt.mk' (kindOf st) (arrOf st) (((pendingOf st).setIfInBounds i (sa,na+nb,w1)).eraseIdxIfInBounds (i+1)) (gallopOf st) (failedOf st)):=⟨g.pm,g.kd,g.fl,hp2⟩
 have s2:SS (SortSt.mk' (kindOf st) (arrOf st) (((pendingOf st).setIfInBounds i (sa,na+nb,w1)).eraseIdxIfInBounds (i+1)) (gallopOf st) (failedOf st)) (SortSt.mk' (kindOf st) (arrOf st) (((pendingOf st).setIfInBounds i (sa,na+nb,w1)).eraseIdxIfInBounds (i+1)) (gallopOf st) (failedOf st)):=⟨rfl,rfl,g.kd,g.fl⟩
 refine wpS_bind (cu eb ?_)
 refine wpS_bind (B3 (arr:=arrOf st) s2 oeb ik ‹1› (by rw [<- h5];exact ra) ‹1› λk k1 k2 k3=>?_)
 dsimp only
 by_cases kn:na - k=0
 ·rw [if_pos (by simpa using kn)]
  refine wpS_pure (h _ g2 (λj j' a1 a2 a3=>?_) λ_ _=>rfl)
  by_cases c1:j' < sb
  ·exact ra j j' a1 a2 c1
  ·by_cases c2:j < sb
   ·have:=k2 (j - sa) ‹1›
    rw [show sa+(j - sa)=j from Nat.add_sub_of_le ‹1›]at this
    exact Int.le_trans this (rb sb j' (Nat.le_refl _) ‹1› a3)
   ·exact rb j j' ‹1› a2 a3
 rw [if_neg (by simpa using kn)]
 rw [show sa+k+(na - k) - 1=sb - 1 by rw [Nat.add_assoc,Nat.add_sub_of_le ‹1›,h5]]
 refine wpS_bind (cu ea ?_)
 refine wpS_bind (B2 (arr:=arrOf st) s2 oea ik ‹1› rb ‹1› λm m1 m2 m3=>?_)
 dsimp only
 by_cases mz:m=0
 ·rw [if_pos (by simpa using mz)]
  refine wpS_pure (h _ g2 (λj j' a1 a2 a3=>?_) λ_ _=>rfl)
  by_cases c1:j' < sb
  ·exact ra j j' a1 a2 c1
  ·by_cases c2:j < sb
   ·have:=m3 (j' - sb) ‹1› ‹1›
    rw [show sb+(j' - sb)=j' by omega]at this
    exact Int.le_trans (ra j (sb - 1) a1 ‹1› ‹1›) this
   ·exact rb j j' ‹1› a2 a3
 rw [if_neg (by simpa using mz)]
 have zx:((arrOf st).extract (sa+k) sb).size=sb - (sa+k):=gX ‹1›
 have zy:((arrOf st).extract sb (sb+m)).size=m:=by rw [gX ‹1›];omega
 have kk:∀j,sa+k<=j->j < sb->Kr (arrOf st) sb < Kr (arrOf st) j:=λj j1 j2=>by
  have:=k3 (j - sa) ‹1› ‹1›
  rwa [show sa+(j - sa)=j from Nat.add_sub_of_le ‹1›]at this
 have mm:∀j,sb<=j->j < sb+m->Kr (arrOf st) j < Kr (arrOf st) (sb - 1):=λj j1 j2=>by
  have:=m2 (j - sb) ‹1›
  rwa [show sb+(j - sb)=j from Nat.add_sub_of_le ‹1›]at this
 have hf:∀j,j < ((arrOf st).extract (sa+k) sb).size->Kr ((arrOf st).extract sb (sb+m)) 0 < Kr ((arrOf st).extract (sa+k) sb) j:=λj hj=>by
  rw [kj ‹1› ‹1›,kj ‹1› ‹1›]
  exact kk _ ‹1› ‹1›
 have hl:∀j,j < ((arrOf st).extract sb (sb+m)).size->Kr ((arrOf st).extract sb (sb+m)) j < Kr ((arrOf st).extract (sa+k) sb) (((arrOf st).extract (sa+k) sb).size - 1):=λj hj=>by
  rw [kj ‹1› ‹1›,kj ‹1› ‹1›,zx,show sa+k+(sb - (sa+k) - 1)=sb - 1 by rw [<- Nat.add_sub_assoc ‹1›,Nat.add_sub_of_le ‹1›]]
  exact mm _ ‹1› ‹1›
 have fin:∀M v,SS (SortSt.mk' (kindOf st) (arrOf st) (((pendingOf st).setIfInBounds i (sa,na+nb,w1)).eraseIdxIfInBounds (i+1)) (gallopOf st) (failedOf st)) v->Mg ((arrOf st).extract (sa+k) sb) ((arrOf st).extract sb (sb+m)) M->
   Q true (setArr v (M.toList.zipIdx.foldl (λa x=>a.setIfInBounds (sa+k+x.snd) x.fst) (arrOf v))):=by
  intro M v sv mg
  have ml:M.toList.length=sb - (sa+k)+m:=by
   rw [mg.pm.length_eq,List.length_append,Array.length_toList,Array.length_toList,zx,zy]
  have ar:arrOf v=arrOf st:=sv.ar
  have el:=oC (sa+k) M.toList 0 (arrOf v) (by rw [ar,ml];omega)
  rw [ar,Nat.add_zero,ml,show sa+k+(sb - (sa+k)+m)=sb+m by rw [<- Nat.add_assoc,Nat.add_sub_of_le ‹1›]]at el
  have r:=sA ‹1› ‹1› ‹1› ‹1› h5 ‹1› mg el ra rb (λj a1 a2 j' a3 a4=>?_) (λj a1 a2 j' a3 a4=>?_)
  ·have e4:arrOf (setArr v (M.toList.zipIdx.foldl (λa x=>a.setIfInBounds (sa+k+x.snd) x.fst) (arrOf v)))=M.toList.zipIdx.foldl (λa x=>a.setIfInBounds (sa+k+x.snd) x.fst) (arrOf st):=by
    show M.toList.zipIdx.foldl (λa x=>a.setIfInBounds (sa+k+x.snd) x.fst) (arrOf v)=_
    rw [ar]
   refine h _ ⟨?_,sv.kd,sv.fl,sv.pd.trans hp2⟩ ?_ ?_
   ·rw [e4];exact r.1.trans g.pm
   ·rw [e4];exact r.2.1
   ·rw [e4];exact r.2.2
  ·have:=k2 (j - sa) ‹1›
   rw [show sa+(j - sa)=j from Nat.add_sub_of_le ‹1›]at this
   exact Int.le_trans this (rb sb j' (Nat.le_refl _) a3 a4)
  ·have:=m3 (j' - sb) ‹1› ‹1›
   rw [show sb+(j' - sb)=j' by omega]at this
   exact Int.le_trans (ra j (sb - 1) a1 ‹1› ‹1›) this
 have isn:∀v,SS (SortSt.mk' (kindOf st) (arrOf st) (((pendingOf st).setIfInBounds i (sa,na+nb,w1)).eraseIdxIfInBounds (i+1)) (gallopOf st) (failedOf st)) v->∀xs,(failedOf (setArr v xs)).isNone=true:=λv sv xs=>by
  show (failedOf v).isNone=true
  rw [sv.fl];rfl
 by_cases c:na - k<=m
 ·rw [if_pos c]
  refine wpS_bind (Bk (a:=(arrOf st).extract (sa+k) sb) (b:=(arrOf st).extract sb (sb+m)) s2 (mI ik ‹1›) (mI ik ‹1›) (iV (ra.sub ‹1› ‹1›) ‹1›) (iV (rb.sub ‹1› ‹1›) ‹1›) ‹1› ‹1› (λj hj=>Int.le_of_lt (hf j hj)) hl λM v sv mg=>?_)
  refine wpS_bind (wpS_modify (wpS_bind (wpS_get ?_)))
  have:=wpS_pure (M:=model prog w) (A:=A) (E:=E) (s:=s) (fin M v sv mg)
  rw [<- isn v sv]at this
  exact this
 ·rw [if_neg c]
  refine wpS_bind (Bl (a:=(arrOf st).extract (sa+k) sb) (b:=(arrOf st).extract sb (sb+m)) s2 (mI ik ‹1›) (mI ik ‹1›) (iV (ra.sub ‹1› ‹1›) ‹1›) (iV (rb.sub ‹1› ‹1›) ‹1›) ‹1› ‹1› hf hl λM v sv mg=>?_)
  refine wpS_bind (wpS_modify (wpS_bind (wpS_get ?_)))
  have:=wpS_pure (M:=model prog w) (A:=A) (E:=E) (s:=s) (fin M v sv mg)
  rw [<- isn v sv]at this
  exact this
end
noncomputable def pr (q:Nat × Nat × Nat):Nat × Nat:=(q.1,q.2.1)
noncomputable def cO [Rk] (xs:Array Keyed):List (Nat × Nat)->Nat->Nat->Prop
 | [],lo,hi=>lo=hi
 | (b,n)::r,lo,hi=>b=lo/\1<=n/\Ris xs lo (lo+n)/\cO xs r (lo+n) hi
theorem cO.len [Rk] {xs:Array Keyed}:∀{l:List (Nat × Nat)}{lo hi:Nat},cO xs l lo hi->lo+l.length<=hi
 | [],lo,hi,h=>by cases h;simp
 | (b,n)::r,lo,hi,h=>by
  have:=h.2.2.2.len
  have:=h.2.1
  rw [List.length_cons];omega
theorem cO.app [Rk] {xs:Array Keyed}:∀{l r:List (Nat × Nat)}{lo hi:Nat},cO xs (l++r) lo hi↔∃m,cO xs l lo m/\cO xs r m hi
 | [],r,lo,hi=>⟨λh=>⟨lo,rfl,h⟩,λ⟨m,e,h⟩=>by cases e;exact h⟩
 | (b,n)::l,r,lo,hi=>by
  constructor
  ·rintro⟨h1,h2,h3,h4⟩
   obtain⟨m,a,b⟩:=cO.app.mp h4
   exact⟨m,⟨h1,h2,h3,a⟩,b⟩
  ·rintro⟨m,⟨h1,h2,h3,h4⟩,h5⟩
   exact⟨h1,h2,h3,cO.app.mpr ⟨m,h4,h5⟩⟩
theorem Ris.same [Rk] {xs ys:Array Keyed}{a b:Nat} (r:Ris xs a b) (h:∀k,a<=k->k < b->Kr ys k=Kr xs k):Ris ys a b:=λi j h1 h2 h3=>by
 rw [h i h1 ‹1›,h j ‹1› h3];exact r i j h1 h2 h3
theorem cO.same [Rk] {xs ys:Array Keyed}:∀{l:List (Nat × Nat)}{lo hi:Nat},cO xs l lo hi->(∀k,lo<=k->k < hi->Kr ys k=Kr xs k)->cO ys l lo hi
 | [],lo,hi,h,_=>h
 | (b,n)::r,lo,hi,h,e=>⟨h.1,h.2.1,h.2.2.1.same λk k1 k2=>e k k1 (by have:=h.2.2.2.len;omega),h.2.2.2.same λk k1 k2=>e k ‹1› k2⟩
theorem jU {p:Array (Nat × Nat × Nat)}{i:Nat}{x y z:Nat × Nat × Nat}{l r:List (Nat × Nat × Nat)} (e:p.toList=l++x::y::r) (hl:l.length=i) :
  ((p.setIfInBounds i z).eraseIdxIfInBounds (i+1)).toList=l++z::r:=by
 have hs:(p.setIfInBounds i z).toList=l++z::y::r:=by
  rw [Array.toList_setIfInBounds,e,<- hl,List.set_append_right _ _ (Nat.le_refl _),Nat.sub_self]
  rfl
 have hz:i+1 < (p.setIfInBounds i z).size:=by
  rw [<- Array.length_toList,hs,List.length_append,hl]
  simp
 unfold Array.eraseIdxIfInBounds
 rw [dif_pos hz,Array.toList_eraseIdx,hs,<- hl,List.eraseIdx_append_of_length_le ‹1›,Nat.add_sub_cancel_left]
 rfl
section
variable {prog:Program}{w:World}{A:Around}{E:Value->Shared->Prop}{s:Shared} [RkOk prog w A s] {a₀:Array Keyed}
theorem qx {st:SortSt}{p:Array (Nat × Nat × Nat)}{i hi:Nat}{Q:Bool->SortSt->Prop} (h0:dI a₀) (g:SG a₀ p st) (r:cO (arrOf st) (p.toList.map pr) 0 hi) (hh:hi<=a₀.size) (hi2:i+1 < p.size)
  (h:∀v p',SG a₀ p' v->cO (arrOf v) (p'.toList.map pr) 0 hi->p'.size+1=p.size->(∀k,hi<=k->Kr (arrOf v) k=Kr (arrOf st) k)->Q true v) :
  wpS (model prog w) A E s (mergeAt' i) Q st:=by
 obtain⟨sa,na,w1,e1⟩:∃sa na w1,p[i]?=some (sa,na,w1):=⟨_,_,_,getElem?_pos p i ‹1›⟩
 obtain⟨sb,nb,w2,e2⟩:∃sb nb w2,p[i+1]?=some (sb,nb,w2):=⟨_,_,_,getElem?_pos p (i+1) hi2⟩
 have ep:p.toList=p.toList.take i++(sa,na,w1)::(sb,nb,w2)::p.toList.drop (i+2):=by
  conv=>lhs;rw [<- List.take_append_drop i p.toList]
  congr 1
  have l1:i < p.toList.length:=by rw [Array.length_toList];omega
  have l2:i+1 < p.toList.length:=by rw [Array.length_toList];omega
  rw [List.drop_eq_getElem_cons l1,List.drop_eq_getElem_cons l2]
  have g1:p.toList[i]=(sa,na,w1):=by
   have:=Array.getElem?_toList (xs:=p) (i:=i)
   rw [e1,List.getElem?_eq_getElem l1]at this
   exact Option.some.inj this
  have g2:p.toList[i+1]=(sb,nb,w2):=by
   have:=Array.getElem?_toList (xs:=p) (i:=i+1)
   rw [e2,List.getElem?_eq_getElem l2]at this
   exact Option.some.inj this
  rw [g1,g2]
 have ll:(p.toList.take i).length=i:=by rw [List.length_take,Array.length_toList];omega
 have r1:=r
 rw [ep,List.map_append,List.map_cons,List.map_cons]at r1
 obtain⟨m,ra,rb1,rb2,rb3,rc1,rc2,rc3,rd⟩:=cO.app.mp r1
 have rb1':sa=m:=rb1
 have rc1':sb=m+na:=rc1
 have rb2':1<=na:=rb2
 have rc2':1<=nb:=rc2
 subst rb1'
 have hd:=rd.len
 have hl:=ra.len
 have hd':sa+na+nb+(List.map pr (List.drop (i+2) p.toList)).length<=hi:=hd
 refine Bm h0 g e1 e2 rc1' ‹1› ‹1› ‹1› (by rw [rc1'];exact rb3) (by rw [rc1'];exact rc3) λv gv rv kv=>?_
 refine h v _ gv ?_ ?_ λk hk=>kv k (.inr ‹1›)
 ·rw [jU ep ll,List.map_append,List.map_cons]
  refine cO.app.mpr ⟨sa,ra.same λk _ k2=>kv k (.inl k2),rfl,(show 1<=na+nb by omega),?_,?_⟩
  ·show Ris (arrOf v) sa (sa+(na+nb))
   rw [<- Nat.add_assoc,<- rc1']
   exact rv
  ·show cO (arrOf v) _ (sa+(na+nb)) hi
   rw [<- Nat.add_assoc]
   exact rd.same λk k1 k2=>kv k (.inr (by rw [rc1'];exact k1))
 ·have e3:=congrArg List.length (jU (z:=(sa,na+nb,w1)) ep ll)
  have e4:=congrArg List.length ep
  rw [Array.length_toList,List.length_append,ll]at e3 e4
  rw [List.length_cons]at e3
  rw [List.length_cons,List.length_cons]at e4
  omega
theorem pX (p:Array (Nat × Nat × Nat)) (i x:Nat):(p.modify i λq=>(q.1,q.2.1,x)).toList.map pr=p.toList.map pr:=by
 apply List.ext_getElem?
 intro k
 rw [List.getElem?_map,List.getElem?_map,Array.getElem?_toList,Array.getElem?_toList,Array.getElem?_modify]
 split
 ·cases p[k]? <;> rfl
 ·rfl
theorem sZ {st:SortSt}{Q:Unit->SortSt->Prop} (h0:dI a₀) (g:SG a₀ #[] st) (h2:2<=a₀.size)
  (h:∀v,(arrOf v).Perm a₀->failedOf v=none->zC (arrOf v) a₀.size->Q () v):wpS (model prog w) A E s sortRuns' Q st:=by
 rw [sortRuns'_eq]
 dsimp only
 refine wpS_bind (wpS_get ?_)
 rw [g.sz]
 generalize minRun' a₀.size a₀.size 0=mr
 refine wpS_bind (wpS_mono (wpS_forRange (I:=λx c v=>∃lo p,c=(none,lo)/\SG a₀ p v/\cO (arrOf v) (p.toList.map pr) 0 lo/\lo<=a₀.size/\x<=lo)
  (Q:=λc v=>∃p,c=(none,a₀.size)/\SG a₀ p v/\cO (arrOf v) (p.toList.map pr) 0 a₀.size) ?step ?fin ⟨0,#[],rfl,g,rfl,by omega,by omega⟩) ?post)
 case fin=>
  rintro c v ⟨lo,p,rfl,gv,r,l1,l2⟩
  have e:lo=a₀.size:=by omega
  subst e
  exact⟨p,rfl,gv,r⟩
 case post=>
  rintro c v ⟨p,rfl,gv,r⟩
  dsimp only
  refine wpS_bind (wpS_mono (wpS_forRange (I:=λx c u=>c=(none,())/\∃p,SG a₀ p u/\cO (arrOf u) (p.toList.map pr) 0 a₀.size/\(p.size<=1\/p.size+x<=a₀.size))
   (Q:=λc u=>c=(none,())/\∃p,SG a₀ p u/\cO (arrOf u) (p.toList.map pr) 0 a₀.size/\p.size<=1) ?_ ?_ ⟨rfl,p,gv,r,.inr ?_⟩) ?_)
  ·rintro x c u _ xn ⟨rfl,p,gu,r,z⟩
   refine wpS_bind (wpS_get ?_)
   have ep:pendingOf u=p:=gu.pd
   rw [ep]
   by_cases c1:p.size<=1
   ·rw [if_pos c1]
    exact wpS_pure ⟨rfl,p,gu,r,c1⟩
   rw [if_neg c1]
   have bnd:∀b:Bool,(if b=true then p.size - 2 - 1 else p.size - 2)+1 < p.size:=λb=>by cases b <;> simp <;> omega
   refine wpS_bind (qx h0 gu r (Nat.le_refl _) (bnd _) λu2 p2 g2 r2 z2 _=>?_)
   exact wpS_pure ⟨rfl,p2,g2,r2,.inr ‹1›⟩
  ·rintro c u ⟨rfl,p,gu,r,z⟩
   exact⟨rfl,p,gu,r,by omega⟩
  ·have:=r.len
   rw [List.length_map,Array.length_toList]at this
   omega
  ·rintro c u ⟨rfl,p,gu,r,z⟩
   refine wpS_pure (h u gu.pm gu.fl λi j hij hj=>?_)
   have hz:p.toList.length<=1:=by rw [Array.length_toList];exact z
   generalize p.toList=l at r hz
   cases l with
   | nil=>
    have:0=a₀.size:=r
    omega
   | cons q t=>
    cases t with
    | nil=>
     obtain⟨r1,r2,r3,r4⟩:=r
     have r4':0+q.2.1=a₀.size:=r4
     exact r3 i j ‹1› hij ‹1›
    | cons q2 t=>simp at hz
 case step=>
  rintro x c v _ xn ⟨lo,p,rfl,gv,r,l1,l2⟩
  dsimp only
  by_cases c1:lo>=a₀.size
  ·rw [if_pos c1]
   have e:lo=a₀.size:=by omega
   subst e
   exact wpS_pure ⟨p,rfl,gv,r⟩
  rw [if_neg c1]
  have push:∀N (u:SortSt) (q:Array (Nat × Nat × Nat)),SG a₀ q u->cO (arrOf u) (q.toList.map pr) 0 lo->Ris (arrOf u) lo (lo+N)->1<=N->lo+N<=a₀.size->
    ∃lo' q',(none,lo+N)=((none,lo'):Option Unit × Nat)/\SG a₀ q' (setPending u ((pendingOf u).push (lo,N,0)))/\cO (arrOf (setPending u ((pendingOf u).push (lo,N,0)))) (q'.toList.map pr) 0 lo'/\lo'<=a₀.size/\x+1<=lo':=by
   intro N u q gq rq rn n1 n2
   refine⟨lo+N,q.push (lo,N,0),rfl,⟨gq.pm,gq.kd,gq.fl,?_⟩,?_,n2,by omega⟩
   ·show (pendingOf u).push _=_
    rw [gq.pd]
   ·rw [Array.toList_push,List.map_append]
    exact cO.app.mpr ⟨lo,rq,rfl,n1,rn,rfl⟩
  refine wpS_bind (rK h0 ‹1› ‹1› gv λm u gu lu m1 m2 rm=>?_)
  dsimp only
  have ru:cO (arrOf u) (p.toList.map pr) 0 lo:=r.same λk _ k2=>lu k k2
  by_cases hm:m < mr
  case' pos=>
   rw [if_pos hm]
   refine wpS_bind (wpS_lift (wpAny_rule ⟨rfl,?_⟩))
   refine wpS_bind (wW h0 (n:=min (a₀.size - lo) mr) ‹1› ‹1› gu rm λu2 g2 lu2 rn=>?_)
   rw [if_neg (by decide)]
   have rq:cO (arrOf u2) (p.toList.map pr) 0 lo:=ru.same λk _ k2=>lu2 k k2
   have n1:1<=min (a₀.size - lo) mr:=by omega
   have n2:lo+min (a₀.size - lo) mr<=a₀.size:=by omega
   generalize min (a₀.size - lo) mr=N at *
  case' neg=>
   rw [if_neg hm]
   have g2:=gu
   have rn:=rm
   have rq:=ru
   have n1:=m1
   have n2:lo+m<=a₀.size:=by omega
   clear gu lu m2 rm ru hm m1
   generalize m=N at *
   generalize u=u2 at *
  all_goals
   refine wpS_bind (wpS_get ?_)
   have ep:pendingOf u2=p:=g2.pd
   cases hb:(pendingOf u2).back? with
   | none=>
    dsimp only
    exact wpS_bind (wpS_modify (wpS_pure (push N u2 p g2 rq rn n1 n2)))
   | some q=>
    obtain⟨s1,k1,w1⟩:=q
    dsimp only
    generalize power' a₀.size (2 * s1+k1) (2 * s1+k1+k1+N) a₀.size=pw
    refine wpS_bind (wpS_mono (wpS_forRange (I:=λ_ c u=>c=(none,())/\∃q,SG a₀ q u/\cO (arrOf u) (q.toList.map pr) 0 lo/\Ris (arrOf u) lo (lo+N))
     (Q:=λc u=>c=(none,())/\∃q,SG a₀ q u/\cO (arrOf u) (q.toList.map pr) 0 lo/\Ris (arrOf u) lo (lo+N)) ?_ (λ_ _ e=>e) ⟨rfl,p,g2,rq,rn⟩) ?_)
    ·rintro y c u3 _ _ ⟨rfl,q,g3,r3,rn3⟩
     refine wpS_bind (wpS_get ?_)
     have e3:pendingOf u3=q:=g3.pd
     rw [e3]
     by_cases cz:q.size > 1
     ·rw [if_pos cz,getElem?_pos q (q.size - 2) ‹1›]
      dsimp only
      split
      ·exact wpS_pure ⟨rfl,q,g3,r3,rn3⟩
      ·refine wpS_bind (qx h0 g3 r3 l1 ‹1› λu4 q4 g4 r4 z4 k4=>?_)
       exact wpS_pure ⟨rfl,q4,g4,r4,rn3.same λk a1 _=>k4 k a1⟩
     ·rw [if_neg cz]
      exact wpS_pure ⟨rfl,q,g3,r3,rn3⟩
    ·rintro c u3 ⟨rfl,q,g3,r3,rn3⟩
     dsimp only
     refine wpS_bind (wpS_modify (wpS_bind (wpS_modify (wpS_pure (push N _ _ ⟨g3.pm,g3.kd,g3.fl,rfl⟩ ?_ rn3 n1 n2)))))
     rw [pX,show pendingOf u3=q from g3.pd]
     exact r3
end
section
variable {prog:Program}{w:World}{A:Around}{E:Value->Shared->Prop}{s:Shared}{hb:Heap}{fa:Addr}{mp:Str->Option Value}{bk:List (Addr × Obj)}{a st:Addr}{xs:List Value}{ks:List Int}{ka:Array Value}{c1 c2:Nat}
end
section
variable {X:Cx}{pins:List (Addr × Obj)}{σ:St}{H:Hp}{s:Shared}
end
section
variable {X:Cx}{e:Expr}{kws:List Keyword}{t tk:TA}{p pos:Pos}
end
section
variable {X:Cx}{pins:List (Addr × Obj)}{σ:St}{H:Hp}{s:Shared}
end
section
variable {X:Cx}
end
section
variable {X:Cx}
end
def wT (P:Addr) (H:Hp):Prop:=H P=some (.tbl #[])/\∀b,b=P\/H b=none\/∃o xs,H b=some (.frz o (.lst xs))
theorem sE {P:Program}{w:World}{K:W.Frag}{mg mb:Str->Option Value}{k:Nat}{fa a:Addr}{fd:FuncData}{x:Str}{sp:Sp}{s₁:Shared}{vs:List Value}{ns:List Int}{c T:Addr}
  (KX:K.In s₁.heap) (hns:s₁.heap.Ns mainGlobals mg) (hb:s₁.heap.Ns builtinsNs mb) (hbb:∀x:Str,x≠"__name__"->mb x=bootBuiltins x) (hlim:s₁.heap.NoLimit) (hg:s₁.gens = #[])
  (hC:PySem.W.CodeHd s₁.heap c T) (hT:s₁.heap.get? T=some (PySem.W.tabObj #[])) (hnt:PySem.W.noTabs K=true) (hB:s₁.heap.BuiltinsAt mg T)
  (ha:s₁.heap.get? a=some { cls:=.type "list", data:=.seq vs.toArray }) (hi:IntsAre vs ns) (hl:ns.length<=sizeLine) (hr:Room k callerA)
  (F:∀base:Heap,K.In base->base.Ns mainGlobals mg->PySem.W.CodeHd base c T->base.BuiltinsAt mg T->FnOk P w K mg base CX0 k fa fd [x] sp) (hbind:∀(s:Shared) (u:Value),BindsTo s fd ⟨[u],[]⟩ [(x,u)])
  (hsp:∀H:Hp,wT T H->SqL K H a (ns.map V.int)->sp [.ref a] H (λv _=>v=.bl true) λ_ _ _=>False) :
  codeAny (model P w) callerA (.call (.ref fa) ⟨[.ref a],[]⟩) (λr s'=>r=.ok (.ret (.bool true))/\OldK s₁.heap s'.heap/\s'.os=s₁.os/\AllBare s'.gens) s₁:=by
 have rv:=kK hi
 have lenV:=hi.length
 have aT:a≠T:=λz=>by rw [z,hT]at ha;cases ha
 have core:∀H:Hp,wT T H->SqL K H a (ns.map V.int)->HOk P w H s₁.heap->(∀b,H b≠none->b=a\/b=T)->(H a≠none->K.lookup a=none)->
   codeAny (model P w) callerA (.call (.ref fa) ⟨[.ref a],[]⟩) (λr s'=>r=.ok (.ret (.bool true))/\OldK s₁.heap s'.heap/\s'.os=s₁.os/\AllBare s'.gens) s₁:=by
  intro H hO hS hok hA hK
  have base_of:∀{b:Addr}{o:Obj},s₁.heap.get? b=some o->H b=none->(jL s₁.heap H).get? b=some o:=λe n=>wc e n
  have noA:∀{b:Addr}{o:Obj},s₁.heap.get? b=some o->o≠{ cls:=.type "list", data:=.seq vs.toArray }->o≠PySem.W.tabObj #[]->H b=none:=λ{b o} e d1 d2=>by
   cases q:H b with
   | none=>rfl
   | some u=>
    rcases hA b (by rw [q];simp) with z | z
    ·subst z
     rw [ha]at e;cases e
     exact absurd rfl d1
    ·subst z
     rw [hT]at e;cases e
     exact absurd rfl d2
  have nsK:∀{b:Addr}{m:Str->Option Value},s₁.heap.Ns b m->(jL s₁.heap H).Ns b m:=λ{b m} hh=>by
   obtain⟨o,es,ep,e,d,r⟩:=hh
   exact⟨o,es,ep,base_of e (noA e (λz=>by rw [z]at d;cases d) λz=>by rw [z]at d;cases d),d,r⟩
  have hKb:K.In (jL s₁.heap H):=λb o e=>base_of (KX b o e) (by
   cases q:H b with
   | none=>rfl
   | some u=>
    rcases hA b (by rw [q];simp) with z | z
    ·subst z
     rw [hK (by rw [q];simp)]at e;cases e
    ·subst z
     have h1:=KX b o e
     rw [hT]at h1;cases h1
     have h2:=List.all_eq_true.mp hnt (b,PySem.W.tabObj #[]) (PySem.W.mem_of_lookupK e)
     exact absurd (show false=true from h2) Bool.false_ne_true)
  have hM:Mod K mg (jL s₁.heap H):=⟨hKb,nsK hns,⟨mb,nsK hb,hbb⟩,let ⟨mc,h1,h2⟩:=hlim;⟨mc,nsK h1,h2⟩⟩
  have hCb:PySem.W.CodeHd (jL s₁.heap H) c T:=by
   obtain⟨o,vs',file,tf,flags,tg,inF,text,tt,e1,e2,r⟩:=hC
   exact⟨o,vs',file,tf,flags,tg,inF,text,tt,base_of e1 (noA e1 (λz=>by rw [z]at e2;injection e2 with e2;exact absurd e2 (by decide)) λz=>by rw [z]at e2;cases e2),e2,r⟩
  have hBb:(jL s₁.heap H).BuiltinsAt mg T:=by
   obtain⟨bm,ob,b1,b2,b3,b4,b5,b6,b7⟩:=hB
   exact⟨bm,ob,b1,b2,b3,b4,base_of b5 (noA b5 (λz=>by rw [z]at b6;injection b6 with b6;exact absurd b6 (by decide)) λz=>by rw [z]at b6;cases b6),b6,b7⟩
  have e0:Env0 P w K mg (jL s₁.heap H) callerA [] s₁ H:=⟨rfl,hM,λb o e=>ye e,Nat.le_of_eq (sJ _ _),trivial,λb hb=>absurd (show b∈([]:List Addr) from hb) (by simp),hok,.of_eq hg⟩
  refine codeAny_mono ((F _ hKb (nsK hns) hCb hBb).run callerA [] s₁ H ⟨[.ref a],[]⟩ [.ref a] [.ref a] _ _ hr e0 (hbind s₁ (.ref a)) (.cons rfl .nil) (hsp H hO hS)) λr s' h=>?_
  cases r with
  | error e=>exact False.elim h
  | ok fl=>
   cases fl with
   | next=>exact False.elim h
   | brk=>exact False.elim h
   | cont=>exact False.elim h
   | ret u=>
    obtain⟨v,H',os,bare,un,hok',r',q⟩:=h
    have q':v=.bl true:=q
    subst q'
    obtain rfl:u=Value.bool true:=r'
    obtain⟨more,hmore⟩:=un.tbls T #[] hO.1
    have hT':s'.heap.get? T=some { cls:=.none,data:=.fields (#[]++more) }:=hok' T _ hmore
    have kept:∀b o,b≠T->s₁.heap.get? b=some o->s'.heap.get? b=some o:=λb o nT e=>by
     rcases hO.2 b with z | z | ⟨ob,xs,z⟩
     ·exact absurd z nT
     ·exact un.keep b o e z (by intro z;exact absurd (show b∈([]:List Addr) from z) (by simp)) (by simp)
     ·have z2:=un.frzs b ob _ z
      obtain⟨e1,_⟩:=hok b _ z
      obtain⟨e2,_⟩:=hok' b _ z2
      rw [e]at e1;cases e1
      exact e2
    refine⟨rfl,⟨λb o e=>?_,λb o e=>?_⟩,os,bare⟩
    ·by_cases z:b=T
     ·subst z
      rw [hT]at e;cases e
      exact .inr (.inl ⟨(hC.tab hT).isCodeTable,rfl,#[],more,rfl,hT'⟩)
     ·exact .inl (kept b o z e)
    ·by_cases z:b=T
     ·subst z;exact⟨_,hT'⟩
     ·exact⟨o,kept b o z e⟩
 cases hk:K.lookup a with
 | some o=>
  have e:=KX a o hk
  rw [ha]at e
  cases e
  refine core (λb=>if b=T then some (.tbl #[]) else none) ⟨if_pos rfl,λb=>?_⟩ (.inr ⟨_,vs.toArray,_,hk,rfl,rfl,rfl,by rw [List.size_toArray,lenV];exact hl,by simpa using rv⟩) (λb u z=>?_) (λb z=>?_) λz=>absurd (if_neg aT) z
  ·by_cases hb:b=T
   ·exact .inl hb
   ·exact .inr (.inl (if_neg hb))
  ·by_cases hb:b=T
   ·have z':=(if_pos hb).symm.trans z
    cases z'
    rw [hb]
    exact hT
   ·have z':=(if_neg hb).symm.trans z
    cases z'
  ·by_cases hb:b=T
   ·exact .inr hb
   ·exact absurd (if_neg hb) z
 | none=>
  refine core (λb=>if b=T then some (.tbl #[]) else if b=a then some (.frz { cls:=.type "list", data:=.seq vs.toArray } (.lst (ns.map V.int))) else none) ⟨if_pos rfl,λb=>?_⟩
   (.inl (.inr ⟨{ cls:=.type "list", data:=.seq vs.toArray },(if_neg aT).trans (if_pos rfl)⟩)) (λb u z=>?_) (λb z=>?_) λ_=>hk
  ·by_cases hb:b=T
   ·exact .inl hb
   ·by_cases hb2:b=a
    ·exact .inr (.inr ⟨_,_,(if_neg hb).trans (if_pos hb2)⟩)
    ·exact .inr (.inl ((if_neg hb).trans (if_neg hb2)))
  ·by_cases hb:b=T
   ·have z':=(if_pos hb).symm.trans z
    cases z'
    rw [hb]
    exact hT
   ·by_cases hb2:b=a
    ·have z':=((if_neg hb).trans (if_pos hb2)).symm.trans z
     cases z'
     subst hb2
     exact⟨ha,by rw [List.length_map];exact hl,vs,_,rv,ha⟩
    ·have z':=((if_neg hb).trans (if_neg hb2)).symm.trans z
     cases z'
  ·by_cases hb:b=T
   ·exact .inr hb
   ·by_cases hb2:b=a
    ·exact .inl hb2
    ·exact absurd ((if_neg hb).trans (if_neg hb2)) z
theorem tw {l:PySem.W.OpenLaw}{n k:Nat}{q:Program}{loose:List Str}{XP:(Str->Option Value)->Heap->Prop}{YP:World->Heap->Prop}{d dj:DefRec}{K:Params->PySem.W.Frag}{sp:World->Sp}{x xj:Str}{c T:Addr}
  (hn:l.most=some n) (hn2:n<=sizeLine) (hdf:d.params.defaults=[]) (hr:Room k callerA)
  (hY:∀(w:World) (h:Heap),YP w h->(K w.params).In h)
  (hrj:(recsOf q).find? (λe=>e.name == xj)=some dj) (htab:∀(w:World) (h:Heap),(K w.params).In h->PySem.W.tabIn (K w.params) xj=some (c,T)) (hnt:∀(w:World) (h:Heap),(K w.params).In h->PySem.W.noTabs (K w.params)=true)
  (F:∀(w:World) (mg:Str->Option Value) (fa:Addr) (h:Heap),(K w.params).In h->h.Ns mainGlobals mg->mg d.name=some (.ref fa)->
   ∃fd:FuncData,(∀(s:Shared) (u:Value),BindsTo s fd ⟨[u],[]⟩ [(x,u)])/\
    ∀base:Heap,(K w.params).In base->base.Ns mainGlobals mg->PySem.W.CodeHd base c T->base.BuiltinsAt mg T->FnOk l.prog w (K w.params) mg base CX0 k fa fd [x] (sp w))
  (hsp:∀(w:World) (H:Hp) (a:Addr) (ns:List Int),ns.length<=n->wT T H->SqL (K w.params) H a (ns.map V.int)->sp w [.ref a] H (λv _=>v=.bl true) λ_ _ _=>False) :
  PySem.W.WalkO q loose XP YP l.row.toRowW d [] (λf vs=>PySem.call f vs):=by
 refine Att.attach_call hn hdf λw s₀ s₁ mg mb fa o pm cd doc a vs ns G Y ho hd hcd hmg hobj hints hlen hg=>?_
 have KX:=hY w _ Y
 obtain⟨fd,hb,hF⟩:=F w mg fa _ KX G.T.g hmg
 obtain⟨hC,hT⟩:=PySem.W.tab_of G.T KX hrj (htab w _ KX)
 have hB:s₁.heap.BuiltinsAt mg T:=by
  obtain⟨bm,ob,b1,b2,b3,b4,b5,b6⟩:=G.T.bmain
  refine⟨bm,ob,b1,b2,λz=>?_,λz=>?_,b3,b4,b5,b6⟩
  ·obtain⟨o',es,ep,e,hd',_⟩:=G.T.g
   rw [z,e]at b3;cases b3;rw [hd']at b6;cases b6
  ·rw [z,hT]at b3;cases b3;cases b4
 exact sE KX G.T.g G.T.b G.T.builtins G.T.nolimit hg hC hT (hnt w _ KX) hB hobj hints (Nat.le_trans hlen hn2) hr hF hb (λH hO hS=>hsp w H a ns hlen hO hS)
end L2
namespace Strip
section
variable {M:Type} [DecidableEq M]
end
end Strip
namespace L2
open PySem PySem.Spec PyProof.Rows
section
variable {T:Addr}{pos:Pos}{q:Str}{H H':Hp}
end
section
variable {X:Cx}
theorem cH:cD X (.builtin "isinstance") (λxs H Q=>∃x n t b,xs=[x,.ty n]/\TyOf X.K H x t/\PySem.W.kitOne X.K t (.type n)=some b/\Q (.bl b) H):=by
 intro pins s σ H xs us Q I r h
 obtain⟨x,n,t,b,rfl,ty,e,q⟩:=h
 obtain⟨u,u2,rfl,rx,rt⟩:=tD r
 cases (show u2=Value.type n from rt)
 exact sI I rx ty e λtk=>⟨.bl b,H,I.tok _,rfl,q⟩
end
end L2
namespace Strip
section
variable {M:Type} [DecidableEq M]
end
end Strip
namespace L2
open PySem PySem.Spec PyProof.Rows
noncomputable def cN (X:Cx) (scope:Scope) (cl:List (Str × Addr)) (N:List Str) (C:Addr) (fp:List Addr) (s:Shared) (H:Hp):Cx where
 prog:=X.prog
 w:=X.w
 K:=X.K
 mg:=X.mg
 base:=X.base
 A:=X.A
 N:=N
 s₀:=s
 H₀:=H
 env:=compEnvC scope cl C X.env
 outer:=X.stack
 stack:=X.stack
 ex:=fp
 fn:=λ_=>false
 calm:=true
 pn:=[]
 xe:=λ_ _=>False
noncomputable def bJ (sub:List Nat) (σ:St):St:=sub.map λi=>(σ[i]?).join
def PTs (X:Cx) (ifs:List Expr) (t:TT):Prop:=
 ∀(pins:List (Addr × Obj)) (s:Shared) (σ:St) (H:Hp) (Q:Bool->Hp->Prop),Inv X pins σ H s->t σ H Q->
  wpAny (model X.prog X.w) X.A (forIn ifs true λc r=>if r=true then do let ok <- isTrue c X.env (eval c X.env);pure (ForInStep.yield ok) else pure (ForInStep.yield r)) (TP X pins σ Q) X.xe s
theorem df {X:Cx}:PTs X [] (λ_ H Q=>Q true H):=λ_ _ _ H _ I h=>wpAny_tests_nil ⟨H,I,h⟩
theorem qR {X:Cx}{c:Expr}{t:TT} (h:PT X c t):PTs X [c] t:=λpins s σ H Q I q=>wpAny_tests_one (h pins s σ H Q I q)
noncomputable def kM (wi:TI) (sub:List Nat) (tt:TT) (te:TE):TE:=λσ H Q=>wi σ H λJ H1=>∀D,H1 D=none->∃W:Nat->Nat->List V->Hp->Prop,(∃m,W 0 m [] (upd H1 D (.lst [])))/\∀i m ys H2,W i m ys H2->
 (J.stop i H2/\Q (.ref D) H2)\/(J.go i H2/\∃N:List V->Hp->Prop,(∀ys' H',N ys' H'->∃m',m' < m/\W (i+1) m' ys' H')/\∀v H3,J.yld i H2 v H3->tt (some v::bJ sub σ) H3 λb H4=>if b=true then
  te (some v::bJ sub σ) H4 λy H5=>H5 D=some (.lst ys)/\ys.length < sizeLine/\N (ys++[y]) (upd H5 D (.lst (ys++[y])))
  else N ys H4)
def PEC (X:Cx) (e iter:Expr) (scope:Scope) (te:TE):Prop:=
 ∀(pos:Pos) (pins:List (Addr × Obj)) (s:Shared) (σ:St) (H:Hp) (Q:VK) (use:Option (Value->Sem Unit)) (QV:Value->Shared->Prop),Inv X pins σ H s->te σ H Q->
  (∀(D C:Addr) (H':Hp) (s':Shared),Inv X pins σ H' s'->iA X pins H' C->(∃m,s'.heap.Ns C m)->Q (.ref D) H'->compPost (model X.prog X.w) X.A X.xe use QV (.ref D) C (.ok .next) s')->
  wpAny (model X.prog X.w) X.A (comprehension e scope X.env pos (newList []) false (eval iter X.env) use) QV X.xe s
theorem iA.turn {X:Cx}{pins:List (Addr × Obj)}{σ:St}{H:Hp}{s:Shared}{h':Heap}{C:Addr} (f:iA X pins H C) (I:Inv X pins σ H s) (hs:Heap.SameBut C s.heap h'):Inv X pins σ H { s with heap:=h' }:=
 I.turned (h':=h') (t':=s.toks) (it:=C) (λb o n e=>(hs.2 b n).trans e) f.1 f.2.1 f.2.2.2.1 f.2.2.2.2.1 f.2.2.2.2.2
theorem fR {X:Cx}{elt tg iter:Expr}{ifs:List Expr}{scope:Scope}{pos:Pos}{te:TE} (h:PEC X (.ListComp elt [⟨tg,iter,ifs,0⟩] scope pos) iter scope te):PE X (.ListComp elt [⟨tg,iter,ifs,0⟩] scope pos) te:=by
 intro pins s σ H Q I q
 rw [eval_ListComp]
 refine h _ pins s σ H Q none _ I q λD C H' s' K1 fC ⟨m,hm⟩ q=>⟨m,hm,λh' hsb'=>⟨.ref D,H',fC.turn K1 hsb',rfl,q⟩⟩
theorem xJ {X:Cx}{elt tg iter:Expr}{ifs:List Expr}{scope:Scope}{pos spos py:Pos}{te:TE}{i:Nat}{y:Str} (hN:X.N.Nodup) (hi:X.N[i]?=some y) (hx:Loc X.env.scope y)
  (h:PEC X (.ListComp elt [⟨tg,iter,ifs,0⟩] scope pos) iter scope te) (hsw:swapsWith (.ListComp elt [⟨tg,iter,ifs,0⟩] scope pos) (some (.Name y py)) spos.line X.env=pure true:=by rfl)
  (hf:X.fn y=true\/X.env.scope.names.lookup y=some .local:=by first | exact .inl rfl | exact .inr rfl | assumption):PS X (.Assign [.Name y py] (.ListComp elt [⟨tg,iter,ifs,0⟩] scope pos) spos) (xc te (aF i)):=by
 intro pins s σ H D I q
 rw [exec_Assign_Name_used _ _ _ _ hsw]
 refine zB0 (wpAny_standAt (zB0 ?_))
 show wpAny _ X.A (do let _ <- comprehension (.ListComp elt [⟨tg,iter,ifs,0⟩] scope pos) scope X.env _ (newList []) false (eval iter X.env) (some (assign (.Name y py) X.env))) _ _ s
 refine zB0 (wpAny_mono (h _ pins s σ H _ (some (assign (.Name y py) X.env)) (λ_ s'=>SP X pins D .next s') I q λDa C H' s' K1 fC hm q=>?_) (λ_ s' hq=>zP0 (zP0 hq)) λ_ _ e=>e)
 show wpAny _ X.A (assign (.Name y py) X.env (.ref Da)) _ _ _
 refine wpAny_assign_Name (kO K1 hN hi hx (v:=.ref Da) rfl (λs2 I2 hh=>?_) hf)
 obtain⟨m,hm⟩:=hm
 obtain⟨a,hsb,ha⟩:=hh
 have hne:C≠a:=by
  rcases ha with z | z
  ·rw [z];exact fC.2.1
  ·exact λe=>fC.2.2.2.2.1 _ _ z e.symm
 exact⟨m,hm.sameBut hsb hne,λh' hs'=>⟨_,H',fC.turn I2 hs',q⟩⟩
section
variable {prog:Program}{w:World}{A:Around}{R:Result->Shared->Prop}{s:Shared}
noncomputable abbrev ls (prog:Program) (w:World) (A:Around) (env:Env) (R:Result->Shared->Prop):Value->Shared->Prop:=notedBy (model prog w) A env λx s'=>R (.error x) s'
theorem qp {elt tg iter:Expr}{ifs:List Expr}{scope:Scope}{pos:Pos}{it acc:Value}{env:Env} (J:Nat->Shared->Prop)
  (go:∀n s,J n s->wpAny (model prog w) A (pyNext it) (λr s1=>match r with
   | none=>R (.ok .next) s1
   | some v=>wpAny (model prog w) A (letOwnedTupleGo tg it v) (λ_ s1'=>wpAny (model prog w) A (assign tg env v) (λ_ s2=>
     wpAny (model prog w) A (forIn ifs true λc r=>if r=true then do let ok <- isTrue c env (eval c env);pure (ForInStep.yield ok) else pure (ForInStep.yield r)) (λb s3=>
      if b=true then wpAny (model prog w) A (eval elt env) (λx s4=>wpAny (model prog w) A (call (.builtin "list.append") [acc,x]) (λ_ s5=>∃m,m < n/\J m s5) (ls prog w A env R) s4) (ls prog w A env R) s3
      else ∃m,m < n/\J m s3) (ls prog w A env R) s2) (ls prog w A env R) s1') (ls prog w A env R) s1) (ls prog w A env R) s)
  (n:Nat) (h0:J n s):codeAny (model prog w) A (.compLoop (.ListComp elt [⟨tg,iter,ifs,0⟩] scope pos) 0 it acc env) R s:=by
 refine codeAny_loop rfl J (λn s hI=>?_) n h0
 have e:((compTurn (.ListComp elt [⟨tg,iter,ifs,0⟩] scope pos) 0 it acc env).onRaise λx=>do noteFrame x env;theTreesLotGoes x)=((compTurn (.ListComp elt [⟨tg,iter,ifs,0⟩] scope pos) 0 it acc env).onRaise λx=>do noteFrame x env;theTreesLotGoes x):=rfl
 show wpAny _ A ((compTurn (.ListComp elt [⟨tg,iter,ifs,0⟩] scope pos) 0 it acc env).onRaise λx=>do noteFrame x env;theTreesLotGoes x) _ _ s
 apply wpAny_noted
 rw [compTurn_list]
 refine zB0 (wpAny_standAt (zB0 (thn (go n s hI) λr s1 h1=>?_)))
 cases r with
 | none=>exact zP0 h1
 | some v=>
  refine zB0 (thn h1 λ_ s1' h1'=>zB0 (thn h1' λ_ s2 h2=>zB0 (thn h2 λb s3 h3=>?_)))
  cases b with
  | false=>exact zP0 ⟨rfl,h3⟩
  | true=>exact zB0 (zB0 (thn h3 λx s4 h4=>zB0 (thn h4 λ_ s5 h5=>zP0 (zP0 ⟨rfl,h5⟩))))
end
def Ci (g:TG) (n:Nat) (sub:List Nat) (tt:TT) (te:TE) (σ:St) (Q:VK) (J:It) (H1:Hp):Prop:=∀D,H1 D=none->∃W:Nat->Nat->List V->Hp->Prop,(∃m,W 0 m [] (upd H1 D (.lst [])))/\∀i m ys H2,W i m ys H2->
 (J.stop i H2/\Q (.ref D) H2)\/(J.go i H2/\∃N:List V->Hp->Prop,(∀ys' H',N ys' H'->∃m',m' < m/\W (i+1) m' ys' H')/\∀v H3,J.yld i H2 v H3->∀τ:List (Option V),τ.length=n->g v (τ++bJ sub σ) H3 λσ' H'=>(∃τ':List (Option V),τ'.length=n/\σ'=τ'++bJ sub σ)/\tt σ' H' λc H4=>if c=true then
  te σ' H4 λy H5=>H5 D=some (.lst ys)/\ys.length < sizeLine/\N (ys++[y]) (upd H5 D (.lst (ys++[y])))
  else N ys H4)
section
variable {X:Cx}
theorem se {elt tg iter:Expr}{xn:List Str}{g:TG}{CB:St->VK->It->Hp->Prop}{pos:Pos}{ifs:List Expr}{scope:Scope}{cl:List (Str × Addr)}{sub:List Nat}{fv:List Str}{wi:TI}{tt:TT}{te:TE}
  (hc:X.calm=true) (hi:PI X tg iter wi) (hclos:closureFor scope X.env=pure cl)
  (hcell:∀y∈scope.names,y.2≠.cell) (hkind:scope.kind=.function) (hnames:∀y∈scope.names,y.2=.local->scope.names.lookup y.1=some .local)
  (hl:sub.length=fv.length) (hsub:∀(j:Nat) (i:Nat) (y:Str),sub[j]?=some i->fv[j]?=some y->X.N[i]?=some y/\Vis X.env.scope y/\X.env.kindOf y≠some .local)
  (hvis:∀y∈fv,(compEnvC scope cl 0 X.env).kindOf y=some .cell\/(compEnvC scope cl 0 X.env).kindOf y=some .free)
  (hcl:∀y c,cl.lookup y=some c->X.env.cells.lookup y=some c) (hcl2:∀y∈fv,cl.lookup y=X.env.cells.lookup y)
  (hhas:∀y,((compEnvC scope cl 0 X.env).kindOf y=some .cell\/(compEnvC scope cl 0 X.env).kindOf y=some .free)->∃c,cl.lookup y=some c)
  (hg:∀C fp s H,PG (cN X scope cl (xn++fv) C fp s H) tg g) (ht:∀C fp s H,PTs (cN X scope cl (xn++fv) C fp s H) ifs tt) (he:∀C fp s H,PE (cN X scope cl (xn++fv) C fp s H) elt te)
  (hCB:∀σ Q J H1,CB σ Q J H1->Ci g xn.length sub tt te σ Q J H1) (hs:∀x,foldedSetIterable iter X.env x=pure x:=by intro _;rfl):PEC X (.ListComp elt [⟨tg,iter,ifs,0⟩] scope pos) iter scope (λσ H Q=>wi σ H λJ H1=>CB σ Q J H1):=by
 intro upos pins s σ H Q use QV I h hend
 refine wpAny_comprehension_free (use:=use) rfl hs hclos hkind hnames ?_
 refine thn (hi pins s σ H _ I h) λv s1 h1=>thn h1 λitv s2 h2=>?_
 obtain⟨it,fp,tn,J,H2,e,I2,T,st2,f2,h⟩:=h2
 subst e
 refine wpAny_newList ?_ (Nat.zero_le _)
 have nD:H2 s2.heap.objs.size=none:=I2.hok.fresh (Nat.le_refl _)
 obtain⟨W,⟨m0,w0⟩,turn⟩:=hCB _ _ _ _ h s2.heap.objs.size nD
 have I3:=I2.lnew (ys:=[]) (its:=[]) (t':=s2.toks) .nil (Nat.zero_le _)
 generalize hs3:({ s2 with heap:=s2.heap.push { cls:=.type "list", data:=.seq ([]:List Value).toArray },toks:=s2.toks }:Shared)=s3 at I3
 have hDlt:s2.heap.objs.size < s3.heap.objs.size:=by rw [<- hs3];show _ < (s2.heap.push _).objs.size;rw [Heap.size_push];exact Nat.lt_succ_self _
 have old3:∀b o,s2.heap.get? b=some o->s3.heap.get? b=some o:=λb o e=>by rw [<- hs3];exact zH0 _ e
 generalize hD:s2.heap.objs.size=D at *
 refine wpAny_newFunctionEnv hcell (by intro y hy;simp at hy) (λh₁ hns hsb=>?_) hkind
 generalize hC:s3.heap.objs.size=C at *
 have kept:∀b o,s3.heap.get? b=some o->h₁.get? b=some o:=λb o e=>(hsb.2 b (by rw [<- hC];exact Nat.ne_of_lt (Heap.lt_size e))).trans (zH0 _ e)
 have nC:upd H2 D (.lst []) C=none:=I3.hok.fresh (Nat.le_of_eq hC)
 have fC:iA X pins (upd H2 D (.lst [])) C:=I3.fpOk (Nat.le_of_eq hC) nC
 have fp3:∀b∈fp,b < s2.heap.objs.size:=λb hb=>by obtain⟨o,e,_⟩:=T.obj _ _ st2 b hb;exact Heap.lt_size e
 have fpC:∀b∈fp,b≠C:=λb hb=>by rw [<- hC];exact Nat.ne_of_lt (Nat.lt_of_lt_of_le (fp3 b hb) (by rw [hD];exact Nat.le_of_lt (hC ▸ hDlt)))
 have fpD:∀b∈fp,b≠D:=λb hb=>by rw [<- hD];exact Nat.ne_of_lt (fp3 b hb)
 have ok':(cN X scope cl (xn++fv) C fp s3 (upd H2 D (.lst []))).Ok:=by
  refine⟨I.ok.mod,hkind,I.ok.glob,I.ok.blt,Nat.le_of_eq hC,λy z c e1 e2=>I.ok.inj y z c (hcl y c e1) (hcl z c e2),λy hy=>hhas y hy,(λy c e _=>by cases e),λ_=>I.ok.hd hc,I.ok.frames,.inl rfl,λb hb=>⟨fpC b hb,λy c e=>(f2 b hb).2.2.2.2.1 y c (hcl y c e)⟩,I3.bs,Nat.le_trans I.ok.bsz I3.sz,
   λb o e hb=>?_,λb hb hf=>?_,I3.stack,I3.stkFree⟩
  ·rcases (f2 b hb).2.2.2.1 with z | z
   ·exact I.ok.noex b o e z
   ·exact absurd (Nat.lt_of_lt_of_le (Heap.lt_size e) (Nat.le_trans I.ok.bsz z)) (Nat.lt_irrefl _)
  ·rcases List.mem_cons.mp (I3.stkSub b hf) with z | z
   ·exact(f2 b hb).2.1 z
   ·exact(f2 b hb).2.2.1 z
 have lenσ:∀τ:List (Option V),τ.length=xn.length->(τ++bJ sub σ).length=(xn++fv).length:=λτ ht=>by
  unfold bJ
  rw [List.length_append,List.length_append,List.length_map,hl,ht]
 have I4:∀t',Inv (cN X scope cl (xn++fv) C fp s3 (upd H2 D (.lst []))) [] (List.replicate xn.length none++bJ sub σ) (upd H2 D (.lst [])) { s3 with heap:=h₁,toks:=t' }:=λt'=>by
  refine⟨ok',rfl,I3.bare,Un.kept kept,⟨_,hns,λi y v e1 e2 e3=>?_⟩,λy c e=>?_,nC,λy c e=>I3.freeC y c (hcl y c e),(λp hp=>by cases hp),I3.hok.kept kept,lenσ _ (List.length_replicate ..)⟩
  ·by_cases hi:i < xn.length
   ·rw [List.getElem?_append_left (by rw [List.length_replicate];exact hi),List.getElem?_replicate,if_pos hi]at e2
    cases e2
   ·have e1:(xn++fv)[i]?=some y:=e1
    rw [List.getElem?_append_right ‹1›]at e1
    rw [List.getElem?_append_right (by rw [List.length_replicate];omega),List.length_replicate]at e2
    generalize i - xn.length=j at e1 e2
    unfold bJ at e2
    rw [List.getElem?_map]at e2
    cases ei:sub[j]? with
    | none=>rw [ei]at e2;cases e2
    | some i=>
     rw [ei]at e2
     have e2:(σ[i]?).join=some v:=Option.some.inj e2
     obtain⟨n1,n2,n3⟩:=hsub j i y ei e1
     have e4:σ[i]?=some (some v):=by
      cases q:σ[i]? with
      | none=>rw [q]at e2;cases e2
      | some w'=>rw [q]at e2;cases w' with
       | none=>cases e2
       | some v'=>cases e2;rfl
     obtain⟨m,hn,hl'⟩:=I3.loc
     obtain⟨u,ru,lu⟩:=hl' i y v n1 e4 n2
     refine⟨u,ru,?_⟩
     rcases lu with⟨k1,_⟩ | ⟨k1,c,ec,ic⟩
     ·exact absurd k1 n3
     ·have hy:=List.mem_of_getElem? e1
      exact .inr ⟨hvis y hy,c,(hcl2 y hy).trans ec,ic.keeps kept⟩
  ·obtain⟨v,z⟩:=I3.cell y c (hcl y c e)
   exact⟨v,z.keeps kept⟩
 have back:∀{σ':St}{H':Hp}{s':Shared},Inv (cN X scope cl (xn++fv) C fp s3 (upd H2 D (.lst []))) [] σ' H' s'->Q (.ref D) H'->
   compPost (model X.prog X.w) X.A X.xe use QV (.ref D) C (.ok .next) s':=λ{σ' H' s'} J' q=>by
  obtain⟨m,hm,_⟩:=id J'.loc
  have hos:s'.os=s3.os:=J'.os
  have K1:Inv X pins σ H' s':=I3.call' (ch:=fp) hos J'.base J'.hok J'.bare λb hb=>⟨(f2 b hb).2.2.2.1,(f2 b hb).2.1,(f2 b hb).2.2.2.2.1,(f2 b hb).2.2.2.2.2⟩
  exact hend D C H' s' K1 ⟨J'.free,fC.2⟩ ⟨m,hm⟩ q
 have stat:∀{H':Hp},(∀b∈fp,H' b=none)->∀b∈fp,iA (cN X scope cl (xn++fv) C fp s3 (upd H2 D (.lst []))) [] H' b:=λhn b hb=>
  ⟨hn b hb,fpC b hb,ok'.exfs b hb,.inl hb,(ok'.exf b hb).2,(λp hp=>by cases hp)⟩
 have loop:∀t',codeAny (model X.prog X.w) X.A (.compLoop (.ListComp elt [⟨tg,iter,ifs,0⟩] scope pos) 0 (.ref it) (.ref D) (compEnvC scope cl C X.env)) (compPost (model X.prog X.w) X.A X.xe use QV (.ref D) C) { s3 with heap:=h₁,toks:=t' }:=λt'=>by
  refine qp (λn s'=>∃(i:Nat) (ys:List V) (H':Hp) (τ:List (Option V)),τ.length=xn.length/\Inv (cN X scope cl (xn++fv) C fp s3 (upd H2 D (.lst []))) [] (τ++bJ sub σ) H' s'/\tn i s'.heap/\(∀b∈fp,H' b=none)/\W i n ys H') ?_ m0
   ⟨0,[],_,_,List.length_replicate ..,I4 t',T.keep _ _ _ st2 (λb hb o e=>kept b o (old3 b o e)),λb hb=>by rw [ah (fpD b hb)];exact(f2 b hb).1,w0⟩
  rintro n s5 ⟨i,ys,H5,τ,hτ,I5,st5,fr5,w5⟩
  rcases turn i n ys H5 w5 with⟨stop,q⟩ | ⟨go,NN,hNN,step⟩
  ·refine wpAny_mono (T.done (cN X scope cl (xn++fv) C fp s3 (upd H2 D (.lst []))) rfl rfl rfl rfl i [] s5 _ H5 (λ_ _=>False) I5 (stat fr5) st5 stop) (λr s6 hh=>?_) λ_ _ f=>f.elim
   obtain⟨hr,I6⟩:=hh
   subst hr
   exact back I6 q
  ·refine wpAny_mono (T.item (cN X scope cl (xn++fv) C fp s3 (upd H2 D (.lst []))) rfl rfl rfl rfl i [] s5 _ H5 (λ_ _=>False) I5 (stat fr5) st5 go) (λr s6 hh=>?_) λ_ _ f=>f.elim
   obtain⟨u,hr,h6⟩:=hh
   subst hr
   refine wpAny_mono h6 (λ_ s7 hh=>?_) λ_ _ f=>f.elim
   obtain⟨v,H7,I7,r7,y7,st7,fr7⟩:=hh
   have I7':=I7.pinned (stat fr7) (T.obj _ _ st7)
   refine wpAny_mono (hg C fp s3 _ _ s7 _ H7 v u _ I7' r7 (step v H7 y7 τ hτ)) (λ_ s8 hh=>?_) λ_ _ f=>f.elim
   obtain⟨_,H8,I8,⟨τ',hτ',rfl⟩,step⟩:=hh
   have again:∀{H9:Hp}{s9:Shared}{ys9:List V}{m9:Nat},Inv (cN X scope cl (xn++fv) C fp s3 (upd H2 D (.lst []))) ([]++jy fp s7.heap) (τ'++bJ sub σ) H9 s9->m9 < n->W (i+1) m9 ys9 H9->
     ∃m,m < n/\∃(i:Nat) (ys:List V) (H':Hp) (τ:List (Option V)),τ.length=xn.length/\Inv (cN X scope cl (xn++fv) C fp s3 (upd H2 D (.lst []))) [] (τ++bJ sub σ) H' s9/\tn i s9.heap/\(∀b∈fp,H' b=none)/\W i m ys H':=λ{H9 s9 ys9 m9} I9 hm w9=>by
    refine⟨m9,hm,i+1,ys9,H9,_,hτ',I9.unpinned,T.keep _ _ _ st7 λb hb o e=>(I9.pin (b,o) (List.mem_append_right _ (List.mem_append_right _ (eN hb e)))).1,λb hb=>?_,w9⟩
    obtain⟨o,e,d⟩:=T.obj _ _ st7 b hb
    exact(I9.pin (b,o) (List.mem_append_right _ (List.mem_append_right _ (eN hb e)))).2.1
   refine wpAny_mono (ht C fp s3 _ _ s8 _ H8 _ I8 step) (λok s9 hh=>?_) λ_ _ f=>f.elim
   obtain⟨H9,I9,q9⟩:=hh
   cases ok with
   | false=>
    rw [if_neg Bool.false_ne_true]at q9 ⊢
    obtain⟨m',hm,w'⟩:=hNN _ _ q9
    exact again I9 hm w'
   | true=>
    rw [if_pos rfl]at q9 ⊢
    refine wpAny_mono (he C fp s3 _ _ s9 _ H9 _ I9 q9) (λxv sa hh=>?_) λ_ _ f=>f.elim
    obtain⟨y,Ha,Ia,ra,hDa,hsz,qa⟩:=hh
    obtain⟨m',hm,w'⟩:=hNN _ _ qa
    refine wpAny_mono (du (X:=cN X scope cl (xn++fv) C fp s3 (upd H2 D (.lst []))) _ sa _ Ha (.ref D) [y] (.ref D) [xv] (λ_ H'=>H'=upd Ha D (.lst (ys++[y]))) Ia rfl (.cons ra .nil) ⟨D,ys,y,rfl,rfl,hDa,hsz,rfl⟩) (λ_ sb hh=>?_) λ_ _ f=>f.elim
    obtain⟨_,Hb,Ib,_,rfl⟩:=hh
    exact again Ib hm w'
 exact codeAny_compStart_list (loop _) (T.self X.A 0 _ _ _ (T.keep _ _ _ st2 (λb hb o e=>kept b o (old3 b o e))) (loop _))
theorem nK {elt iter:Expr}{x:Str}{px pos:Pos}{ifs:List Expr}{scope:Scope}{cl:List (Str × Addr)}{sub:List Nat}{fv:List Str}{wi:TI}{tt:TT}{te:TE}
  (hc:X.calm=true) (hi:PI X (.Name x px) iter wi) (hclos:closureFor scope X.env=pure cl)
  (hcell:∀y∈scope.names,y.2≠.cell) (hkind:scope.kind=.function) (hnames:∀y∈scope.names,y.2=.local->scope.names.lookup y.1=some .local) (hx:scope.names.lookup x=some .local)
  (hnd:(x::fv).Nodup) (hl:sub.length=fv.length) (hsub:∀(j:Nat) (i:Nat) (y:Str),sub[j]?=some i->fv[j]?=some y->X.N[i]?=some y/\Vis X.env.scope y/\X.env.kindOf y≠some .local)
  (hvis:∀y∈fv,(compEnvC scope cl 0 X.env).kindOf y=some .cell\/(compEnvC scope cl 0 X.env).kindOf y=some .free)
  (hcl:∀y c,cl.lookup y=some c->X.env.cells.lookup y=some c) (hcl2:∀y∈fv,cl.lookup y=X.env.cells.lookup y)
  (hhas:∀y,((compEnvC scope cl 0 X.env).kindOf y=some .cell\/(compEnvC scope cl 0 X.env).kindOf y=some .free)->∃c,cl.lookup y=some c)
  (ht:∀C fp s H,PTs (cN X scope cl (x::fv) C fp s H) ifs tt) (he:∀C fp s H,PE (cN X scope cl (x::fv) C fp s H) elt te)
  (hs:∀x,foldedSetIterable iter X.env x=pure x:=by intro _;rfl):PEC X (.ListComp elt [⟨.Name x px,iter,ifs,0⟩] scope pos) iter scope (kM wi sub tt te):=by
 refine se (xn:=[x]) (g:=aF 0) hc hi hclos hcell hkind hnames hl hsub hvis hcl hcl2 hhas (λC fp s H=>bC (i:=0) hnd rfl (.inl (lookup_relabel_local hx)) (.inr (lookup_relabel_local hx))) ht he (λσ Q J H1 h D nD=>?_) hs
 obtain⟨W,w0,st⟩:=h D nD
 refine⟨W,w0,λi m ys H2 hw=>(st i m ys H2 hw).imp id λ⟨go,N,hN,h⟩=>⟨go,N,hN,λv H3 y τ hτ=>?_⟩⟩
 match τ,hτ with
 | [t0],_=>exact⟨⟨[some v],rfl,rfl⟩,h v H3 y⟩
end
end L2
namespace Strip
section
variable {M:Type} [DecidableEq M]
end
end Strip
namespace L2
open PySem PySem.Spec PyProof.Rows
mutual
inductive DatV (H:Hp):V->PySem.W.Dat->Prop
 | non:DatV H .non .none
 | int (i:Int):DatV H (.int i) (.int i)
 | str (x:Str):DatV H (.str x) (.str x)
 | tup {a:Addr}{xs:List V}{ds:List PySem.W.Dat}:H a=some (.tup xs)->DatVs H xs ds->DatV H (.ref a) (.tuple ds)
 | lst {a:Addr}{xs:List V}{ds:List PySem.W.Dat}:H a=some (.lst xs)->DatVs H xs ds->DatV H (.ref a) (.list ds)
inductive DatVs (H:Hp):List V->List PySem.W.Dat->Prop
 | nil:DatVs H [] []
 | cons {x:V}{d:PySem.W.Dat}{xs:List V}{ds:List PySem.W.Dat}:DatV H x d->DatVs H xs ds->DatVs H (x::xs) (d::ds)
end
section
variable {X:Cx}{pins:List (Addr × Obj)}{σ:St}{H:Hp}{s:Shared}
mutual
theorem gf (I:Inv X pins σ H s):∀{x:V}{d:PySem.W.Dat}{u:Value},DatV H x d->aV x u->∃as,Reads s.heap u (PySem.W.kqdP d) as
 | _,_,u,.non,r=>by cases (show u=Value.none from r);rw [PySem.W.kqdP];exact⟨_,.none⟩
 | _,_,u,.int i,r=>by obtain⟨t,e⟩:=(show ∃t,u=Value.int i t from r);subst e;rw [PySem.W.kqdP];exact⟨_,.int i t⟩
 | _,_,u,.str x,r=>by obtain⟨t,e⟩:=(show ∃t,u=Value.str x t from r);subst e;rw [PySem.W.kqdP];exact⟨_,.str x t⟩
 | _,_,u,.tup (a:=a) e t,r=>by
  cases (show u=Value.ref a from r)
  obtain⟨_,its,rv,o,e1,e2,n,e3⟩:=(show bA X.prog X.w H s.heap a (.tup _) from I.hok a _ e)
  obtain⟨as,q⟩:=fe I t rv
  rw [PySem.W.kqdP]
  exact⟨as,reads_tuple_at e1 e2 e3 (by simpa using q)⟩
 | _,_,u,.lst (a:=a) e t,r=>by
  cases (show u=Value.ref a from r)
  obtain⟨_,its,n,rv,e1⟩:=(show bA X.prog X.w H s.heap a (.lst _) from I.hok a _ e)
  obtain⟨as,q⟩:=fe I t rv
  rw [PySem.W.kqdP]
  exact⟨_,reads_list_at e1 rfl rfl (by simpa using q)⟩
theorem fe (I:Inv X pins σ H s):∀{xs:List V}{ds:List PySem.W.Dat}{us:List Value},DatVs H xs ds->aM xs us->∃as,ReadsAll s.heap us (PySem.W.kqdPs ds) as
 | _,_,_,.nil,.nil=>by rw [PySem.W.kqdPs];exact⟨_,.nil⟩
 | _,_,_,.cons d t,.cons r rt=>by
  obtain⟨as,q⟩:=gf I d r
  obtain⟨bs,p⟩:=fe I t rt
  rw [PySem.W.kqdPs]
  exact⟨_,.cons q p⟩
end
end
section
variable {X:Cx}
inductive uV (neg:Bool) (x:V) (y:V) (H:Hp) (Q:VK):Prop
 | mk (d e) (h1:DatV H x d) (h2:DatV H y e) (h3:PySem.W.kqdOk 9 d=true) (h4:PySem.W.kqdOk 9 e=true) (h5:∃k:Bool,(k=true↔d=e)/\Q (.bl (if neg then !k else k)) H):uV neg x y H Q
theorem jr {d:PySem.W.Dat} (h:PySem.W.kqdOk 9 d=true):SeqAt.shaped (PySem.W.kqdP d)=true:=by
 have la:=PySem.W.kqd_lay 9 d h
 unfold SeqAt.shaped
 rw [la.1,Bool.true_and]
 exact decide_eq_true (Nat.le_trans la.2 (by decide))
theorem yp {d e:PySem.W.Dat} (h1:PySem.W.kqdOk 9 d=true) (h2:PySem.W.kqdOk 9 e=true){k:Bool} (hk:k=true↔d=e):PyData.eqv (PySem.W.kqdP d) (PySem.W.kqdP e)=k:=by
 have q:=PySem.W.kqd_eqv 9 d e 9 h1 h2
 cases k with
 | true=>exact q.mpr (hk.mp rfl)
 | false=>exact Bool.eq_false_iff.mpr λx=>by have:=hk.mpr (q.mp x);cases this
theorem vm (hu:X.A.units+64 < cLine):OpR X (compareOp .Eq) (uV false):=by
 intro pins s σ H x y v u Q I r1 r2 h
 obtain⟨d,e,hd,he,kd,ke,k,hk,q⟩:=h
 obtain⟨as,ra⟩:=gf I hd r1
 obtain⟨bs,rb⟩:=gf I he r2
 refine eq_dataH ra rb (jr kd) (jr ke) hu ?_
 rw [yp kd ke hk]
 exact⟨.bl k,H,I,rfl,q⟩
end
theorem eA {K:W.Frag}{a D:Addr}{xs:List V}{σ:St}{sub:List Nat}{tt:TT}{te:TE}{Q:VK}{H:Hp} (Pv:Nat->List V->Hp->Prop) (h0:Pv 0 [] (upd H D (.lst []))) (hl:∀i ys H,i<=xs.length->Pv i ys H->SqL K H a xs)
  (hs:∀i x ys H,xs[i]?=some x->Pv i ys H->tt (some x::bJ sub σ) H λb H4=>if b=true then te (some x::bJ sub σ) H4 λy H5=>H5 D=some (.lst ys)/\ys.length < sizeLine/\Pv (i+1) (ys++[y]) (upd H5 D (.lst (ys++[y]))) else Pv (i+1) ys H4)
  (hd:∀ys H,Pv xs.length ys H->Q (.ref D) H) :
  ∃W:Nat->Nat->List V->Hp->Prop,(∃m,W 0 m [] (upd H D (.lst [])))/\∀i m ys H2,W i m ys H2->
   ((Itl K a).stop i H2/\Q (.ref D) H2)\/((Itl K a).go i H2/\∃N:List V->Hp->Prop,(∀ys' H',N ys' H'->∃m',m' < m/\W (i+1) m' ys' H')/\∀v H3,(Itl K a).yld i H2 v H3->tt (some v::bJ sub σ) H3 λb H4=>if b=true then
    te (some v::bJ sub σ) H4 λy H5=>H5 D=some (.lst ys)/\ys.length < sizeLine/\N (ys++[y]) (upd H5 D (.lst (ys++[y])))
    else N ys H4):=by
 refine⟨λi m ys H=>m=xs.length - i/\i<=xs.length/\Pv i ys H,⟨xs.length,rfl,Nat.zero_le _,h0⟩,?_⟩
 rintro i m ys H ⟨rfl,hi,p⟩
 have q:=hl i ys H hi p
 by_cases hlt:i < xs.length
 ·refine .inr ⟨⟨xs,xs[i],q,by simp [hlt]⟩,Pv (i+1),λys' H' p'=>⟨xs.length - (i+1),by omega,rfl,hlt,p'⟩,λx H' y=>?_⟩
  obtain⟨e,y⟩:=y
  subst e
  exact hs i x ys _ (y xs q) p
 ·have e:i=xs.length:=by omega
  subst e
  exact .inl ⟨⟨xs,q,Nat.le_refl _⟩,hd ys H p⟩
section
variable {X:Cx}
theorem mt_startswith:MtR X "str.startswith" (λx xs H Q=>∃i j,x=.str i/\xs=[.str j]/\Q (.bl (Txt.startswith i j)) H):=by
 intro pins s σ H x xs v us Q I rx rv h
 obtain⟨i,j,rfl,rfl,q⟩:=h
 obtain⟨t,rfl⟩:=rx
 obtain⟨u,rfl,t',rfl⟩:=bY rv
 exact PySem.SC.startswith ⟨.bl _,H,I,rfl,q⟩
theorem kE:cD X (.type "int") (λxs H Q=>∃x n,xs=[.str x]/\PySem.intText? x=some n/\x.length<=640/\Q (.int n) H):=by
 intro pins s σ H xs us Q I r h
 obtain⟨x,n,rfl,hn,hl,q⟩:=h
 obtain⟨u,rfl,t,rfl⟩:=bY r
 exact PySem.W.KIN.call_text hn hl ⟨.int n,H,I.tok _,⟨_,rfl⟩,q⟩
theorem zT:SlR X (λx lo hi H Q=>∃z,x=.str z/\z.length<=sizeLine/\Q (.str (Txt.slice z lo hi)) H):=by
 intro pins s σ H x v vl vu lo hi sl Q I rx hs pl pu h
 obtain⟨z,rfl,hz,q⟩:=h
 obtain⟨t,rfl⟩:=rx
 refine⟨"str", _,slot_str_getitem.lookup,typeIs_str s z t,?_⟩
 have fin:∀l u:Option (Int × Tok),vl=partValue l->vu=partValue u->l.map (·.1)=lo->u.map (·.1)=hi->
   wpAny (model X.prog X.w) X.A (getItem (.str z t) (.ref sl)) (EP X pins σ Q) X.xe s:=λl u e1 e2 e3 e4=>by
  subst e1 e2 e3 e4
  refine wpAny_getItem_str_slice (l:=l) (u:=u) (st:=none) hs rfl ?_
  have q2:∀t',EP X pins σ Q (.str (Txt.slice z (l.map (·.1)) (u.map (·.1))) t') s:=λt'=>⟨.str _,H,I,⟨t',rfl⟩,q⟩
  unfold sliceMade
  unfold Txt.slice at q2
  unfold Txt.slice at q
  by_cases c:((((none:Option (Int × Tok)).map (·.1)).getD 1:Int) == 1 && (slicePicked z l u none).length == z.length)=true
  ·rw [if_pos c]
   rw [if_pos (show ((1:Int) == 1 && (Builtin.Str.strSliceIndices (l.map (·.1)) (u.map (·.1)) 1 z.length).length == z.length)=true from c)]at q2
   exact q2 t
  ·rw [if_neg c]
   rw [if_neg (show ¬((1:Int) == 1 && (Builtin.Str.strSliceIndices (l.map (·.1)) (u.map (·.1)) 1 z.length).length == z.length)=true from c)]at q
   refine⟨?_,⟨.str _,H,I.tok _,⟨_,rfl⟩,q⟩⟩
   have hle:=Txt.slice_le z (l.map (·.1)) (u.map (·.1))
   unfold Txt.slice at hle
   rw [if_neg (show ¬((1:Int) == 1 && (Builtin.Str.strSliceIndices (l.map (·.1)) (u.map (·.1)) 1 z.length).length == z.length)=true from c)]at hle
   exact Nat.le_trans hle hz
 cases pl with
 | none=>cases pu with
  | none=>exact fin none none rfl rfl rfl rfl
  | int j tj=>exact fin none (some (j,tj)) rfl rfl rfl rfl
 | int i ti=>cases pu with
  | none=>exact fin (some (i,ti)) none rfl rfl rfl rfl
  | int j tj=>exact fin (some (i,ti)) (some (j,tj)) rfl rfl rfl rfl
noncomputable def Its (x:Str):It:=⟨λi _=>i < x.cps.size,λi H v H'=>H'=H/\∃c,x.cps[i]?=some c/\v=.str ⟨#[c]⟩,λi _=>x.cps.size<=i⟩
theorem oZ {P:Program}{w:World}{K:W.Frag}{tg:Expr} (x:Str) (t:Tok) (it:Addr):Turn P w K tg (Its x) [it] it (λi h=>h.IsStrIter it "str_ascii_iterator" x t i) where
 mem:=by simp
 obj:=λi h st b hb=>by
  have e:b=it:=by simpa using hb
  subst e
  obtain⟨o,e,c,d⟩:=st
  exact⟨o,e,λv z=>by rw [d]at z;cases z⟩
 keep:=λi h h' st k=>let ⟨o,ho,r⟩:=st;⟨o,k it (by simp) o ho,r⟩
 item:=by
  intro X hP hw hK hc i pins s σ H E I hf st hg
  subst hP hw hK
  have hg:i < x.cps.size:=hg
  obtain⟨f0,f1,f2,f3,f4,f5⟩:=hf it (by simp)
  refine wpAny_pyNext_ascii_item st (c:=x.cps[i]) (by simp [hg]) λh' st' sb=>?_
  have I1:Inv X pins σ H { s with heap:=h',toks:=s.toks+1 }:=I.turned (λb o hb e=>(sb.2 b hb).trans e) f0 f1 f3 f4 f5
  obtain⟨o,e,c,d⟩:=id st'
  exact⟨_,rfl,oA (s:={ s with heap:=h',toks:=s.toks+1 }) e c d (by decide) ⟨.str ⟨#[x.cps[i]]⟩,H,I1,⟨_,rfl⟩,⟨rfl,_,by simp [hg],rfl⟩,st',λb hb=>(hf b hb).1⟩⟩
 done:=by
  intro X hP hw hK hc i pins s σ H E I hf st hg
  subst hP hw hK
  have hg:x.cps.size<=i:=hg
  obtain⟨f0,f1,f2,f3,f4,f5⟩:=hf it (by simp)
  exact wpAny_pyNext_ascii_end (I.ok.hd hc) st (by simp;omega) λh' eb=>⟨rfl,I.turned (t':=s.toks) (λb o hb e=>eb b o hb e) f0 f1 f3 f4 f5⟩
 self:=λ_ _ _ _ _ st h=>wpAny_pyIter_striter_ascii st h
theorem rM {P:Program}{w:World}{K:W.Frag}{tg:Expr} (x:Str) (t:Tok) (it:Addr):Turn P w K tg (Its x) [it] it (λi h=>h.IsStrIter it "str_iterator" x t i) where
 mem:=by simp
 obj:=λi h st b hb=>by
  have e:b=it:=by simpa using hb
  subst e
  obtain⟨o,e,c,d⟩:=st
  exact⟨o,e,λv z=>by rw [d]at z;cases z⟩
 keep:=λi h h' st k=>let ⟨o,ho,r⟩:=st;⟨o,k it (by simp) o ho,r⟩
 item:=by
  intro X hP hw hK hc i pins s σ H E I hf st hg
  subst hP hw hK
  have hg:i < x.cps.size:=hg
  obtain⟨f0,f1,f2,f3,f4,f5⟩:=hf it (by simp)
  refine wpAny_pyNext_wide_item st (c:=x.cps[i]) (by simp [hg]) λh' st' sb=>?_
  have I1:Inv X pins σ H { s with heap:=h',toks:=s.toks+1 }:=I.turned (λb o hb e=>(sb.2 b hb).trans e) f0 f1 f3 f4 f5
  obtain⟨o,e,c,d⟩:=id st'
  exact⟨_,rfl,oA (s:={ s with heap:=h',toks:=s.toks+1 }) e c d (by decide) ⟨.str ⟨#[x.cps[i]]⟩,H,I1,⟨_,rfl⟩,⟨rfl,_,by simp [hg],rfl⟩,st',λb hb=>(hf b hb).1⟩⟩
 done:=by
  intro X hP hw hK hc i pins s σ H E I hf st hg
  subst hP hw hK
  have hg:x.cps.size<=i:=hg
  obtain⟨f0,f1,f2,f3,f4,f5⟩:=hf it (by simp)
  exact wpAny_pyNext_wide_end (I.ok.hd hc) st (by simp;omega) λh' eb=>⟨rfl,I.turned (t':=s.toks) (λb o hb e=>eb b o hb e) f0 f1 f3 f4 f5⟩
 self:=λ_ _ _ _ _ st h=>wpAny_pyIter_striter_wide st h
noncomputable def BZ (tl:TE):TI:=λσ H R=>tl σ H λv H1=>∃x,v=.str x/\R (Its x) H1
theorem Av {tg l:Expr}{tl:TE} (hl:PE X l tl):PI X tg l (BZ tl):=by
 intro pins s σ H R I h
 refine thn (hl pins s σ H _ I h) λv s1 ⟨y,H1,I1,r1,q1⟩=>?_
 obtain⟨x,e,q⟩:=q1
 subst e
 obtain⟨t,rfl⟩:=r1
 have fp:∀b∈[s1.heap.objs.size],iA X pins H1 b:=λb hb=>by
  have e:b=s1.heap.objs.size:=by simpa using hb
  subst e
  exact I1.fpOk (Nat.le_refl _) (I1.hok.fresh (Nat.le_refl _))
 cases ha:x.cps.all (· < 128)
 ·refine wpAny_pyIter_wide ha ?_
  exact⟨s1.heap.objs.size,[s1.heap.objs.size],_,_,H1,rfl,I1.kept (t':=s1.toks) λb o e=>zH0 _ e,rM x t _,⟨_,Heap.get?_push_size _ rfl,rfl,rfl⟩,fp,q⟩
 ·refine wpAny_pyIter_ascii ha ?_
  exact⟨s1.heap.objs.size,[s1.heap.objs.size],_,_,H1,rfl,I1.kept (t':=s1.toks) λb o e=>zH0 _ e,oZ x t _,⟨_,Heap.get?_push_size _ rfl,rfl,rfl⟩,fp,q⟩
theorem wB {x:Str}{D:Addr}{σ:St}{sub:List Nat}{tt:TT}{te:TE}{Q:VK}{H:Hp} (Pv:Nat->List V->Hp->Prop) (h0:Pv 0 [] (upd H D (.lst [])))
  (hs:∀i c ys H,x.cps[i]?=some c->Pv i ys H->tt (some (.str ⟨#[c]⟩)::bJ sub σ) H λb H4=>if b=true then te (some (.str ⟨#[c]⟩)::bJ sub σ) H4 λy H5=>H5 D=some (.lst ys)/\ys.length < sizeLine/\Pv (i+1) (ys++[y]) (upd H5 D (.lst (ys++[y]))) else Pv (i+1) ys H4)
  (hd:∀ys H,Pv x.cps.size ys H->Q (.ref D) H) :
  ∃W:Nat->Nat->List V->Hp->Prop,(∃m,W 0 m [] (upd H D (.lst [])))/\∀i m ys H2,W i m ys H2->
   ((Its x).stop i H2/\Q (.ref D) H2)\/((Its x).go i H2/\∃N:List V->Hp->Prop,(∀ys' H',N ys' H'->∃m',m' < m/\W (i+1) m' ys' H')/\∀v H3,(Its x).yld i H2 v H3->tt (some v::bJ sub σ) H3 λb H4=>if b=true then
    te (some v::bJ sub σ) H4 λy H5=>H5 D=some (.lst ys)/\ys.length < sizeLine/\N (ys++[y]) (upd H5 D (.lst (ys++[y])))
    else N ys H4):=by
 refine⟨λi m ys H=>m=x.cps.size - i/\i<=x.cps.size/\Pv i ys H,⟨_,rfl,Nat.zero_le _,h0⟩,?_⟩
 rintro i m ys H ⟨rfl,hi,p⟩
 by_cases hlt:i < x.cps.size
 ·refine .inr ⟨hlt,Pv (i+1),λys' H' p'=>⟨_,by omega,rfl,hlt,p'⟩,λv H' y=>?_⟩
  obtain⟨rfl,c,ec,rfl⟩:=y
  exact hs i c ys _ ec p
 ·have e:i=x.cps.size:=by omega
  subst e
  exact .inl ⟨Nat.le_refl _,hd ys H p⟩
end
section
variable {X:Cx}
theorem lC (hc:X.calm=true):cD X (.builtin "all") (λxs H Q=>∃(a:Addr) (bs:List Bool),xs=[.ref a]/\SqL X.K H a (bs.map V.bl)/\Q (.bl (bs.all id)) H):=by
 intro pins s σ H xs us Q I r h
 obtain⟨a,bs,rfl,hS,q⟩:=h
 obtain⟨u,rfl,ru⟩:=bY r
 cases (show u=Value.ref a from ru)
 obtain⟨its,rv,p,hz⟩:=I.list hS
 have hlen:=rv.length
 rw [List.length_map]at hlen
 have hne:a≠s.heap.objs.size:=λz=>by
  obtain⟨o,e,_⟩:=p.isList
  exact Nat.lt_irrefl _ (z ▸ Heap.lt_size e)
 obtain⟨f0,f1,f2,f3,f4,f5⟩:=I.fpOk (Nat.le_refl _) (I.hok.fresh (Nat.le_refl _))
 refine call_all_walk (wpAny_pyIter_list p.isList ?_)
 have I1:=λo=>I.kept (h':=s.heap.push o) (t':=s.toks) λb ob e=>zH0 _ e
 refine⟨s.heap.objs.size,_,_,_,_,_,λi=>bs.getD i false,rfl,Walks.list (A:=X.A.in1) (I.ok.hd hc) _ a hne its.toArray,⟨⟨_,Heap.get?_push_size _ rfl,rfl,rfl⟩,p.isList.at λo e=>zH0 _ e⟩,?_,λh' tk hk=>?_⟩
 ·intro i v s' Q' E' hv hQ
  have hv:its[i]?=some v:=by simpa using hv
  have hi:i < bs.length:=by rw [hlen];exact(List.getElem?_eq_some_iff.mp hv).1
  obtain⟨u',hu,ru'⟩:=rv.get (i:=i) (x:=V.bl bs[i]) (by rw [List.getElem?_map,List.getElem?_eq_getElem hi];rfl)
  rw [hv]at hu
  cases hu
  cases (show v=Value.bool bs[i] from ru')
  have e:bs.getD i false=bs[i]:=by rw [List.getD_eq_getElem?_getD,List.getElem?_eq_getElem hi];rfl
  have hQ:Q' (bs.getD i false) s':=hQ
  rw [e]at hQ
  exact wpAny_truthy_bool hQ
 ·refine⟨.bl _,H,(I1 _).turned (t':=tk) (λb o hb e=>hk b o (by simpa using hb) e) f0 f1 f3 f4 f5,rfl,?_⟩
  have e:(List.range its.toArray.size).all (λi=>bs.getD i false)=bs.all id:=by
   rw [List.size_toArray,<- hlen]
   rw [Bool.eq_iff_iff,List.all_eq_true,List.all_eq_true]
   constructor
   ·intro h b hb
    obtain⟨i,hi,rfl⟩:=List.getElem_of_mem hb
    have:=h i (List.mem_range.mpr hi)
    rw [List.getD_eq_getElem?_getD,List.getElem?_eq_getElem hi]at this
    exact this
   ·intro h i hi
    have hi:=List.mem_range.mp hi
    rw [List.getD_eq_getElem?_getD,List.getElem?_eq_getElem hi]
    exact h _ (List.getElem_mem hi)
  rw [e]
  exact q
theorem fI {α:Type}:∀{l:List (Str × α)}{z:Str}{k:α},l.lookup z=some k->∃p∈l,z=p.1/\p.2=k
 | [],_,_,e=>by cases e
 | (n,k')::r,z,k,e=>by
  rw [List.lookup_cons]at e
  split at e
  ·rename_i h
   cases e
   exact⟨(n,k'),List.mem_cons_self,eq_of_beq h,rfl⟩
  ·obtain⟨p,hp,q⟩:=fI e
   exact⟨p,List.mem_cons_of_mem _ hp,q⟩
theorem vg {elt iter:Expr}{x y:Str}{c:Addr}{i:Nat}{px pos:Pos}{ifs:List Expr}{scope:Scope}{wi:TI}{tt:TT}{te:TE}
  (hc:X.calm=true) (hi:PI X (.Name x px) iter wi) (hclos:closureFor scope X.env=pure [(y,c)]) (hkind:scope.kind=.function)
  (hall:∀p∈scope.names,p.2=.local\/(p.1=y/\p.2=.free)) (hnames:∀p∈scope.names,p.2=.local->scope.names.lookup p.1=some .local) (hx:scope.names.lookup x=some .local)
  (hxy:x≠y) (hN:X.N[i]?=some y) (hv:Vis X.env.scope y) (hk:X.env.kindOf y≠some .local)
  (hvis:(compEnvC scope [(y,c)] 0 X.env).kindOf y=some .cell\/(compEnvC scope [(y,c)] 0 X.env).kindOf y=some .free) (hcy:X.env.cells.lookup y=some c)
  (ht:∀C fp s H,PTs (cN X scope [(y,c)] [x,y] C fp s H) ifs tt) (he:∀C fp s H,PE (cN X scope [(y,c)] [x,y] C fp s H) elt te)
  (hs:∀x,foldedSetIterable iter X.env x=pure x:=by intro _;rfl):PE X (.ListComp elt [⟨.Name x px,iter,ifs,0⟩] scope pos) (kM wi [i] tt te):=by
 have one:∀{z c'},[(y,c)].lookup z=some c'->z=y/\c'=c:=λ{z c'} e=>by
  obtain⟨p,hp,e1,e2⟩:=fI e
  cases List.mem_singleton.mp hp
  exact⟨e1,e2.symm⟩
 have self:[(y,c)].lookup y=some c:=by rw [List.lookup_cons];simp
 refine fR ?_
 refine nK (cl:=[(y,c)]) (fv:=[y]) hc hi hclos (λp hp z=>?_) hkind hnames hx ?_ rfl (λj k z e1 e2=>?_) (λz hz=>?_) (λz c' e=>?_) (λz hz=>?_) (λz hz=>?_) ht he hs
 ·rcases hall p hp with q | ⟨_,q⟩ <;> rw [q]at z <;> cases z
 ·exact List.nodup_cons.mpr ⟨λh=>hxy (List.mem_singleton.mp h),List.nodup_cons.mpr ⟨(λh=>nomatch h),List.nodup_nil⟩⟩
 ·cases j with
  | zero=>cases e1;cases e2;exact⟨hN,hv,hk⟩
  | succ j=>cases e1
 ·cases List.mem_singleton.mp hz
  exact hvis
 ·obtain⟨rfl,rfl⟩:=one e
  exact hcy
 ·cases List.mem_singleton.mp hz
  rw [self,hcy]
 ·have far:∀k,(k=.cell\/k=.free)->(compEnvC scope [(y,c)] 0 X.env).kindOf z=some k->∃c',[(y,c)].lookup z=some c':=λk hkk e=>by
   obtain⟨p,hp,e1,e2⟩:=fI (show (scope.names.map _).lookup z=some k from e)
   obtain⟨⟨n,kk⟩,hq,rfl⟩:=List.mem_map.mp hp
   rcases hall _ hq with q | ⟨q,_⟩
   ·have q:kk=.local:=q
    subst q
    have e2:NameKind.local=k:=e2
    rcases hkk with r | r <;> rw [r]at e2 <;> cases e2
   ·have q:n=y:=q
    subst q
    refine⟨c,?_⟩
    have:z=n:=by
     rw [e1]
     dsimp only
     split <;> rfl
    rw [this]
    exact self
  rcases hz with e | e
  ·exact far _ (.inl rfl) e
  ·exact far _ (.inr rfl) e
end
end L2
namespace Strip
section
variable {M:Type} [DecidableEq M]
end
end Strip
namespace L2
open PySem PySem.Spec PyProof.Rows
end L2
namespace Strip
open L2 PySem
end Strip
namespace L2
open PySem PySem.Spec PyProof.Rows
inductive Caps (X:Cx) (scope:Scope) (cl0:List (Str × Addr)):List (Str × Addr)->List Nat->Prop
 | nil:Caps X scope cl0 [] []
 | cons {y:Str}{c:Addr}{i:Nat}{cl:List (Str × Addr)}{sub:List Nat} (hN:X.N[i]?=some y) (hv:Vis X.env.scope y) (hk:X.env.kindOf y≠some .local)
   (hvis:(compEnvC scope cl0 0 X.env).kindOf y=some .cell\/(compEnvC scope cl0 0 X.env).kindOf y=some .free) (hc:X.env.cells.lookup y=some c) (t:Caps X scope cl0 cl sub):Caps X scope cl0 ((y,c)::cl) (i::sub)
section
variable {X:Cx}{scope:Scope}{cl0:List (Str × Addr)}
theorem Caps.len:∀{cl:List (Str × Addr)}{sub:List Nat},Caps X scope cl0 cl sub->sub.length=(cl.map (·.1)).length
 | _,_,.nil=>rfl
 | _,_,.cons _ _ _ _ _ t=>congrArg (· + 1) t.len
theorem Caps.at:∀{cl:List (Str × Addr)}{sub:List Nat},Caps X scope cl0 cl sub->∀(j i:Nat) (y:Str),sub[j]?=some i->(cl.map (·.1))[j]?=some y->X.N[i]?=some y/\Vis X.env.scope y/\X.env.kindOf y≠some .local
 | _,_,.nil,_,_,_,e,_=>by simp at e
 | _,_,.cons hN hv hk _ _ t,j,i,y,e1,e2=>by
  cases j with
  | zero=>
   simp at e1 e2
   subst e1 e2
   exact⟨hN,hv,hk⟩
  | succ j=>exact t.at j i y (by simpa using e1) (by simpa using e2)
theorem Caps.vis:∀{cl:List (Str × Addr)}{sub:List Nat},Caps X scope cl0 cl sub->∀y∈cl.map (·.1),(compEnvC scope cl0 0 X.env).kindOf y=some .cell\/(compEnvC scope cl0 0 X.env).kindOf y=some .free
 | _,_,.nil,_,h=>by simp at h
 | _,_,.cons _ _ _ hvis _ t,y,h=>by
  rcases List.mem_cons.mp h with e | h
  ·rw [e];exact hvis
  ·exact t.vis y h
theorem Caps.cell:∀{cl:List (Str × Addr)}{sub:List Nat},Caps X scope cl0 cl sub->∀y c,cl.lookup y=some c->X.env.cells.lookup y=some c
 | _,_,.nil,_,_,h=>by cases h
 | _,_,.cons (y:=z) (c:=d) _ _ _ _ hc t,y,c,h=>by
  rw [List.lookup_cons]at h
  split at h
  ·rename_i e
   cases h
   rw [eq_of_beq e]
   exact hc
  ·exact t.cell y c h
theorem gm {α:Type}:∀{l:List (Str × α)}{y:Str},y∈l.map (·.1)->∃c,l.lookup y=some c
 | [],_,h=>by simp at h
 | (n,k)::r,y,h=>by
  rw [List.lookup_cons]
  split
  ·exact⟨k,rfl⟩
  ·rename_i e
   rcases List.mem_cons.mp h with z | z
   ·rw [z]at e
    simp at e
   ·exact gm z
def iB (ys:List Str) (p:Str × NameKind):Prop:=p.2=.local\/p.2=.globalImplicit\/(p.1∈ys/\p.2=.free)
noncomputable instance (ys:List Str) (p:Str × NameKind):Decidable (iB ys p):=by unfold iB;exact inferInstance
theorem bT {elt iter:Expr}{x:Str}{cl:List (Str × Addr)}{sub:List Nat}{px pos:Pos}{ifs:List Expr}{wi:TI}{tt:TT}{te:TE}
  (hc:X.calm=true) (hi:PI X (.Name x px) iter wi) (hclos:closureFor scope X.env=pure cl) (hkind:scope.kind=.function)
  (hall:∀p∈scope.names,iB (cl.map (·.1)) p) (hnames:∀p∈scope.names,p.2=.local->scope.names.lookup p.1=some .local) (hx:scope.names.lookup x=some .local)
  (hnd:(x::cl.map (·.1)).Nodup) (caps:Caps X scope cl cl sub)
  (ht:∀C fp s H,PTs (cN X scope cl (x::cl.map (·.1)) C fp s H) ifs tt) (he:∀C fp s H,PE (cN X scope cl (x::cl.map (·.1)) C fp s H) elt te)
  (hs:∀x,foldedSetIterable iter X.env x=pure x:=by intro _;rfl):PEC X (.ListComp elt [⟨.Name x px,iter,ifs,0⟩] scope pos) iter scope (kM wi sub tt te):=by
 refine nK (cl:=cl) (fv:=cl.map (·.1)) hc hi hclos (λp hp z=>?_) hkind hnames hx hnd caps.len caps.at caps.vis caps.cell (λy hy=>?_) (λz hz=>?_) ht he hs
 ·rcases hall p hp with q | q | ⟨_,q⟩ <;> rw [q]at z <;> cases z
 ·obtain⟨c,e⟩:=gm hy
  rw [e,caps.cell y c e]
 ·have far:∀k,(k=.cell\/k=.free)->(compEnvC scope cl 0 X.env).kindOf z=some k->∃c',cl.lookup z=some c':=λk hkk e=>by
   obtain⟨p,hp,e1,e2⟩:=fI (show (scope.names.map _).lookup z=some k from e)
   obtain⟨⟨n,kk⟩,hq,rfl⟩:=List.mem_map.mp hp
   rcases hall _ hq with q | q | ⟨q,_⟩
   ·have q:kk=.local:=q
    subst q
    have e2:NameKind.local=k:=e2
    rcases hkk with r | r <;> rw [r]at e2 <;> cases e2
   ·have q:kk=.globalImplicit:=q
    subst q
    have e2:NameKind.globalImplicit=k:=e2
    rcases hkk with r | r <;> rw [r]at e2 <;> cases e2
   ·have q:n∈cl.map (·.1):=q
    have:z=n:=by
     rw [e1]
     dsimp only
     split <;> rfl
    rw [this]
    exact gm q
  rcases hz with e | e
  ·exact far _ (.inl rfl) e
  ·exact far _ (.inr rfl) e
end
theorem eT {lo:Int}{n:Nat}{D:Addr}{σ:St}{sub:List Nat}{tt:TT}{te:TE}{Q:VK}{H:Hp} (Pv:Nat->List V->Hp->Prop) (h0:Pv 0 [] (upd H D (.lst [])))
  (hs:∀i ys H2,i < n->Pv i ys H2->tt (some (.int (lo+i))::bJ sub σ) H2 λb H4=>if b=true then te (some (.int (lo+i))::bJ sub σ) H4 λy H5=>H5 D=some (.lst ys)/\ys.length < sizeLine/\Pv (i+1) (ys++[y]) (upd H5 D (.lst (ys++[y]))) else Pv (i+1) ys H4)
  (hd:∀ys H2,Pv n ys H2->Q (.ref D) H2) :
  ∃W:Nat->Nat->List V->Hp->Prop,(∃m,W 0 m [] (upd H D (.lst [])))/\∀i m ys H2,W i m ys H2->
   ((Itr lo n).stop i H2/\Q (.ref D) H2)\/((Itr lo n).go i H2/\∃N:List V->Hp->Prop,(∀ys' H',N ys' H'->∃m',m' < m/\W (i+1) m' ys' H')/\∀v H3,(Itr lo n).yld i H2 v H3->tt (some v::bJ sub σ) H3 λb H4=>if b=true then
    te (some v::bJ sub σ) H4 λy H5=>H5 D=some (.lst ys)/\ys.length < sizeLine/\N (ys++[y]) (upd H5 D (.lst (ys++[y]))) else N ys H4):=by
 refine⟨λi m ys H2=>m=n - i/\i<=n/\Pv i ys H2,⟨n,by simp,Nat.zero_le _,h0⟩,?_⟩
 rintro i m ys H2 ⟨rfl,hi,p⟩
 by_cases hlt:i < n
 ·refine .inr ⟨hlt,Pv (i+1),λys' H' p'=>⟨n - (i+1),by omega,rfl,hlt,p'⟩,λv H3 y=>?_⟩
  obtain⟨e,e2⟩:=y
  subst e e2
  exact hs i ys _ hlt p
 ·have e:i=n:=by omega
  subst e
  exact .inl ⟨Nat.le_refl _,hd ys H2 p⟩
theorem lN:∀{zs:List Str}{us:List Value},aM (zs.map V.str) us->StrsAre us zs
 | [],_,r=>by cases r;exact .nil
 | z::zs,_,r=>by
  rw [List.map_cons]at r
  cases r with
  | cons a t=>
   obtain⟨tk,rfl⟩:=a
   exact .cons z tk (lN t)
theorem gN {X:Cx}:MtR X "str.join" (λx xs H Q=>∃i l zs,x=.str i/\xs=[.ref l]/\H l=some (.lst (zs.map V.str))/\(zs.map (·.length)).sum+zs.length * i.length<=16777216/\Q (.str (Txt.join i zs)) H):=by
 intro pins s σ H x xs v us Q I rx rv h
 obtain⟨i,l,zs,rfl,rfl,hl,hz,q⟩:=h
 obtain⟨t,rfl⟩:=rx
 obtain⟨u,rfl,ru⟩:=aM.one rv
 cases ru
 obtain⟨_,its,n,r,_,e⟩:=I.lstM hl
 exact join_list (items:=its.toArray) ⟨_,e,rfl,n,rfl⟩ (by simpa using lN r) hz λt' k=>⟨.str _,H,I.tok _,⟨_,rfl⟩,q⟩
section
variable {X:Cx}
variable {scope:Scope}{cl0:List (Str × Addr)}
end
end L2
namespace L2
open PySem PySem.Spec PyProof.Rows PySem.Builtin PySem.Builtin.ObjectAttr
section
variable {prog:Program}{w:World}{A:Around}{E:Value->Shared->Prop}{s:Shared}{K:W.Frag}{x C U:Addr}{ox:Obj}{od:Option Obj}{cd:ClassData}{name:Str}{v:Value}
end
section
variable {prog:Program}{w:World}{A:Around}{E:Value->Shared->Prop}{h:Heap}{g:Array GenState}{d:Drawn}{t:Nat}{os:OsState}
variable {nm q:Str}{C N f:Addr}{bs bm bmB bmN:List Value}{hdct:Bool}{sn:List Str}{sub:List Value}{ab:Bool}{col:Option Bool}{dd:Option Addr}{k0 k1 k2 k3 k5:Option Value}{B Bn newId nid initId inN:String}
end
end L2
namespace L2
open PySem PySem.Spec PyProof.Rows
section
variable {X:Cx}{pins:List (Addr × Obj)}{σ:St}{H:Hp}{s:Shared}
end
section
variable {X:Cx}
end
section
variable {M:Model}{A:Around}{E:Value->Shared->Prop}{s:Shared}
end
section
variable {M:Model}{A:Around}{E:Value->Shared->Prop}{env:Env}
end
section
variable {M:Model}{A:Around}{E:Value->Shared->Prop}{env:Env}
end
section
variable {P:Program}{w:World}{H:Hp}{h h':Heap}{l:List Env}{a C:Addr}{D:Option Addr}{n:Bool}
end
section
variable {P:Program}{w:World}{K:W.Frag}{mg:Str->Option Value}{base:Heap}{N:List Str}{qual:Str}{scope:Scope}{f:Addr}{cd:Value}{A:Around}{outer:List Env}{s:Shared}{H:Hp}{E:XK}
end
section
variable {M:Model}{A:Around}{E:Value->Shared->Prop}
end
section
variable {X:Cx}{pins:List (Addr × Obj)}{σ:St}{H:Hp}{s:Shared}{E:Value->Shared->Prop}{a:Addr}
end
section
variable {X:Cx}
end
end L2
namespace Kn
open PySem
end Kn
namespace L2
open PySem PySem.Spec PyProof.Rows
theorem fV {α β:Type} (f:α->β):∀(xs:List α) (j:Nat),(xs.map f).eraseIdx j=(xs.eraseIdx j).map f
 | [],j=>by simp
 | x::xs,0=>by simp
 | x::xs,j+1=>by simp [fV f xs j]
section
variable {prog:Program}{w:World}{K:Type} [DecidableEq K] {knd:HeapKind prog w K}{A:Around}{E:Value->Shared->Prop}{s:Shared}
end
section
variable {X:Cx}{pins:List (Addr × Obj)}{σ:St}{H:Hp}{s:Shared}{a b:Addr}{kvs:List (List Key × V)}{k:List Key}{A:Around}{E:Value->Shared->Prop}
end
section
variable {X:Cx}{o e f:Expr}{apos cpos:Pos}{td ty tx:TE}
end
end L2
namespace PySem.SeqAt
open AutoSeq1 (wpAny_loadPart')
open MeetsSeq MeetsSeq2 MeetsSeq3 SeqRoads2
end PySem.SeqAt
namespace L2
open PySem PySem.Spec PyProof.Rows
theorem kb (n:Nat):((List.range n).all λ_=>true)=true:=List.all_eq_true.mpr λ_ _=>rfl
section
variable {X:Cx}
end
noncomputable def inS (zs:List Str) (i:Nat):Str->Bool:=λk=>decide (k∈zs.take i)
noncomputable def gY (zs:List Str):Nat->Nat
 | 0=>0
 | i+1=>match zs[i]? with
  | some z=>if inS zs i z=true then gY zs i else gY zs i+1
  | none=>gY zs i
theorem wK (zs:List Str):∀i,gY zs i<=i
 | 0=>Nat.le_refl _
 | i+1=>by
  have:=wK zs i
  unfold gY
  split
  ·split <;> omega
  ·omega
theorem AZ {zs:List Str} (nd:zs.Nodup){i:Nat}{z:Str} (ez:zs[i]?=some z):inS zs i z=false:=by
 refine decide_eq_false λq=>?_
 obtain⟨j,hj,e⟩:=List.getElem_of_mem q
 rw [List.length_take]at hj
 rw [List.getElem_take]at e
 have hi:=(List.getElem?_eq_some_iff.mp ez)
 exact(List.pairwise_iff_getElem.mp nd j i ‹1› hi.1 ‹1›) (e.trans hi.2.symm)
theorem ly {zs:List Str} (nd:zs.Nodup):∀i,i<=zs.length->gY zs i=i
 | 0,_=>rfl
 | i+1,h=>by
  have ez:zs[i]?=some (zs[i]'‹1›):=List.getElem?_eq_getElem ‹1›
  unfold gY
  rw [ez]
  simp only
  rw [AZ nd ez,ly nd i ‹1›]
  rfl
abbrev kh (P:Program) (w:World) (a:Addr) (zs:List Str) (i:Nat) (h:Heap):Prop:=h.SetOf (strKind P w) a (inS zs i) (gY zs i)
theorem kh.at {P:Program}{w:World}{a:Addr}{zs:List Str}{i:Nat}{h h':Heap} (x:kh P w a zs i h) (e:∀o,h.get? a=some o->h'.get? a=some o):kh P w a zs i h':=by
 obtain⟨o,es,ep,t,ho,r⟩:=x
 exact⟨o,es,ep,t,e o ho,r⟩
section
variable {prog:Program}{w:World}{A:Around}{R:Result->Shared->Prop}{it:Addr}{fp wr:List Addr}{G:Array GenState->Array GenState->Prop}{P:Nat->Value->Prop}{St:Nat->Shared->Prop}
theorem uf {zs:List Str} (W:WalksS prog w A.in1 it fp wr G zs.length P St) (S:Addr) (hS:S∉fp) (val:∀i v,P i v->∃z t,zs[i]?=some z/\v=.str z t) (hb:zs.length+1 < scanBound) :
  ∀(k i:Nat) (s:Shared),zs.length - i=k->i<=zs.length->St i s->kh prog w S zs i s.heap->
   (∀s',Moved (S::wr) G s s'->kh prog w S zs zs.length s'.heap->R (.ok (.ret .none)) s')->
   codeAny (model prog w) A (.builtin "set.update.loop" ⟨[.ref S,.ref it],[]⟩) R s:=by
 have nw:S∉wr:=λz=>hS (W.sub _ z)
 have up:∀b∈wr,b∈S::wr:=λb z=>List.mem_cons_of_mem _ z
 intro k
 induction k with
 | zero=>
  intro i s ek le st x fin
  have e:i=zs.length:=by omega
  subst e
  refine codeAny_builtin F.entry_set_update_loop ?_
  rw [Around.under_plainId F.plain_set_update_loop _]
  show wpAny _ A.in1 (pyNext (.ref it) >>= _) _ _ s
  refine zB0 (W.done s _ _ st λs' mv=>?_)
  exact zP0 (fin s' (mv.mono up) (x.at λo e=>mv.heap S o nw e))
 | succ k ih=>
  intro i s ek le st x fin
  refine codeAny_builtin F.entry_set_update_loop ?_
  rw [Around.under_plainId F.plain_set_update_loop _]
  show wpAny _ A.in1 (pyNext (.ref it) >>= _) _ _ s
  refine zB0 (W.item i s _ _ ‹1› st λv s' pv st' mv=>?_)
  obtain⟨z,t,ez,rfl⟩:=val i v pv
  have x':=x.at λo e=>mv.heap S o nw e
  show wpAny _ A.in1 (holding [Value.str z t] (setAdd S (.str z t)) >>= _) _ _ s'
  refine zB0 (wpAny_holding ?_)
  unfold setAdd
  refine wpAny_holding ?_
  refine zB0 ((strKind prog w).pyHash (k:=z) (strKind_is _ _ _ _) ?_)
  have hc:=wK zs i
  refine wpAny_setAddHashed_of (knd:=strKind prog w) (s:={ s' with toks:=s'.toks+1 }) (strKind_is _ _ _ _) rfl x' ‹1› λh' sb x2=>?_
  have x0:(match zs[i]? with | some z=>if inS zs i z=true then gY zs i else gY zs i+1 | none=>gY zs i)=gY zs (i+1):=rfl
  rw [ez]at x0
  have x3:kh prog w S zs (i+1) h':=SetOf_congr x2 (λk'=>by
   unfold inS
   rw [List.take_add_one,ez,Bool.eq_iff_iff]
   simp) x0
  refine zP0 ⟨plainId_quiet F.plain_set_update_loop _,ih (i+1) _ ‹1› ‹1› (W.frame _ s' _ _ st' (Nat.le_succ _) λb hb o e=>?_) x3 λs'' mv'' x4=>?_⟩
  ·rw [sb.2 b (λh:b=S=>hS (by rw [<- h];exact hb))];exact e
  ·refine fin s'' (Moved.trans W.gtrans ((mv.mono up).then_heap (Nat.le_succ _) λb o hb e=>?_) mv'') x4
   rw [sb.2 b (λh:b=S=>hb (by rw [h];exact List.mem_cons_self))];exact e
end
section
variable {prog:Program}{w:World}{A:Around}{E:Value->Shared->Prop}{s:Shared}
noncomputable abbrev bL (b:Bool):Obj:={ cls:=.type "set", dict:=none,data:=.set #[] 0 (.fresh 0 0 b) }
theorem qF:∀{vs:List Value}{zs:List Str},StrsAre vs zs->∀(i:Nat) (v:Value),vs[i]?=some v->∃z t,zs[i]?=some z/\v=.str z t
 | _,_,.nil,i,v,h=>by simp at h
 | _,_,.cons z t r,0,v,h=>⟨z,t,rfl,by simpa using h.symm⟩
 | _,_,.cons z t r,i+1,v,h=>by
  obtain⟨z',t',e1,e2⟩:=qF r i v (by simpa using h)
  exact⟨z',t',by simpa using e1,e2⟩
theorem kD {l:Addr}{its:Array Value}{zs:List Str}{Q:Value->Shared->Prop} (hh:A.handled=none) (hl:s.heap.IsList l its) (hs:StrsAre its.toList zs) (hb:zs.length+1 < scanBound)
  (q:∀(h':Heap) (tk:Nat),kh prog w s.heap.objs.size zs zs.length h'->(∀a o,a < s.heap.objs.size->s.heap.get? a=some o->h'.get? a=some o)->Q (.ref s.heap.objs.size) { s with heap:=h',toks:=tk }) :
  wpAny (model prog w) A (call (.type "set") [.ref l]) Q E s:=by
 have ft:=PySem.F.called_set
 obtain⟨c0,tl0,m0⟩:=ft.mro
 have m1:=ft.made
 have m2:=ft.sub
 have hlen:its.size=zs.length:=by
  have:=hs.length
  rw [Array.length_toList]at this
  exact this
 refine wpAny_call (codeAny_of_tree ?_)
 show wpAny _ _ (callAny (.type "set") _) _ _ _
 refine zP0 ⟨Code.quiet_builtin _ ‹0›,codeAny_builtin PySem.F.entry_type_call ?_⟩
 rw [Around.under_plain (weight_type_call_type "set" [.ref l] []) rfl]
 have m3:=ft.notType
 have m4:=ft.canCreate
 have m5:=PySem.F.typeCall_set_1 (.ref l)
 repeat (any_goals (first | assumption | wp_step))
 refine codeAny_mono (PySem.code_set_new_1 (.ref l) (E:=E) (Q₁:=λo s1=>∃b:Bool,o=.ref s.heap.objs.size/\s1={ s with heap:=s.heap.push (bL b) }) λb=>⟨b,rfl,rfl⟩) λr s1 hr=>?_
 cases r with
 | error e=>exact hr
 | ok fl=>
  cases fl with
  | ret o=>
   obtain⟨b,rfl,rfl⟩:=hr
   have hS:(s.heap.push (bL b)).get? s.heap.objs.size=some (bL b):=Heap.get?_push_size _ rfl
   have hT:Shared.TypeIs { s with heap:=s.heap.push (bL b) } (.ref s.heap.objs.size) "set":=⟨_,hS,rfl⟩
   have n1:=ft.init.lookup
   have n2:=ft.init.bind (.ref s.heap.objs.size)
   repeat (any_goals (first | assumption | wp_step))
   refine codeAny_mono (codeAny_call_builtin (R:=wants (λr s2=>r=.none/\∃h' tk,s2={ s with heap:=h',toks:=tk }/\kh prog w s.heap.objs.size zs zs.length h'/\∀a o,a < s.heap.objs.size->s.heap.get? a=some o->h'.get? a=some o) E) ft.init.plain PySem.F.entry_set_init (PySem.check_set_init_1 hT ?_)) λr2 s2 hr2=>?_
   ·obtain⟨ol,hol,hcl,nl,hdl⟩:=hl
    obtain⟨oc,od,oa,os⟩:=ol
    simp only at hcl hdl
    subst hcl;subst hdl
    have ho1:(s.heap.push (bL b)).get? l=some { cls:=.type "list", dict:=od,data:=.seq its nl,slots:=os }:=zH0 _ hol
    have k1:=PySem.F.sub_list_set
    have k2:=PySem.F.sub_list_frozenset
    have k3:(Value.type "list" == Value.type "dict")=false:=by decide
    have l1:(s.heap.push (bL b)).IsList l its:=⟨_,ho1,rfl,nl,rfl⟩
    have lS:l < s.heap.objs.size:=Heap.lt_size hol
    unfold Builtin.«set.__init__» noKeywords Builtin.Frozenset.updateFrom
    generalize eI:pyIter=PI
    wp_walk
    subst eI
    refine wpAny_pyIter_list l1 ?_
    refine zB0 (wpAny_runValue ?_)
    have zp:(s.heap.push (bL b)).objs.size=s.heap.objs.size+1:=Heap.size_push _ _
    have d1:l≠(s.heap.push (bL b)).objs.size:=by rw [zp];exact Nat.ne_of_lt (Nat.lt_succ_of_lt lS)
    have d2:s.heap.objs.size∉[(s.heap.push (bL b)).objs.size,l]:=by
     rw [zp]
     intro z
     rcases List.mem_cons.mp z with z | z
     ·exact Nat.ne_of_lt (Nat.lt_succ_self _) z
     ·exact Nat.ne_of_gt lS (List.mem_singleton.mp z)
    have W:=(Walks.list (prog:=prog) (w:=w) (A:=A.in1.in1.in1) (by simp [hh]) _ l d1 its).toS
    rw [hlen]at W
    refine uf W s.heap.objs.size d2 (λi v hv=>qF hs i v (by rw [Array.getElem?_toList];exact hv)) hb (zs.length - 0) 0 _ ‹1› (Nat.zero_le _) ⟨⟨_,Heap.get?_push_size _ rfl,rfl,rfl⟩,l1.push _⟩ ?s0 ?fin
    case s0=>
     exact SetOf_congr ((setObjOf_fresh (knd:=strKind prog w) b).setOf (zH0 _ hS) (by unfold scanBound;omega)) (λ_=>by unfold inS;simp) rfl
    case fin=>
     intro s' mv x
     obtain⟨h',g',d',tk',os'⟩:=s'
     obtain rfl:g'=s.gens:=mv.gens
     obtain rfl:d'=s.drawn:=mv.drawn
     obtain rfl:os'=s.os:=mv.os
     refine zP0 ?_
     show wpAny _ _ (ret Value.none) _ _ _
     refine zP0 ⟨rfl,h',tk',rfl,x,λa o ha e=>mv.heap a o (λz=>?_) (zH0 _ (zH0 _ e))⟩
     rcases List.mem_cons.mp z with z | z
     ·exact Nat.ne_of_lt ha z
     ·rw [zp]at z
      exact Nat.ne_of_lt (Nat.lt_succ_of_lt ha) (List.mem_singleton.mp z)
   ·cases r2 with
    | error e=>exact hr2
    | ok f2=>
     cases f2 with
     | ret r=>
      obtain⟨rfl,h',tk,rfl,x,kp⟩:=hr2
      repeat (any_goals (first | assumption | wp_step))
      exact q _ _ x kp
     | _=>exact hr2.elim
  | _=>exact hr.elim
end
theorem sS {X:Cx} (hc:X.calm=true):cD X (.type "set") (λxs H Q=>∃(a:Addr) (zs:List Str),xs=[.ref a]/\SqL X.K H a (zs.map V.str)/\zs.length<=1000/\∀p,H p=none->Q (.ref p) (upd H p (.ext (kh X.prog X.w p zs zs.length)))):=by
 intro pins s σ H xs us Q I r h
 obtain⟨a,zs,rfl,hS,hz,q⟩:=h
 obtain⟨u,rfl,ru⟩:=bY r
 cases (show u=Value.ref a from ru)
 obtain⟨its,rv,p,_⟩:=I.list hS
 refine kD (I.ok.hd hc) p.isList (by simpa using lN rv) (by unfold scanBound;omega) λh' tk x kp=>?_
 refine⟨.ref s.heap.objs.size,_,I.laid (o:=.ext (kh X.prog X.w s.heap.objs.size zs zs.length)) (t':=tk) (h':=h') (λb u e=>kp b u (Heap.lt_size e) e) (Nat.le_refl _) (by
  obtain⟨o,_,_,_,e,_⟩:=id x
  exact⟨x,⟨o,e⟩,λh1 h2 e k=>e.at k⟩),rfl,q _ (I.hok.fresh (Nat.le_refl _))⟩
theorem sV {X:Cx}:cD X (.builtin "len") (λxs H Q=>∃(a:Addr) (zs:List Str),xs=[.ref a]/\H a=some (.ext (kh X.prog X.w a zs zs.length))/\Q (.int (gY zs zs.length)) H):=by
 intro pins s σ H xs us Q I r h
 obtain⟨a,zs,rfl,hS,q⟩:=h
 obtain⟨u,rfl,ru⟩:=bY r
 cases (show u=Value.ref a from ru)
 obtain⟨o,es,ep,t,ho,hex,hd,_,_,hb,hf,hn⟩:=(show bA X.prog X.w H s.heap a _ from I.hok a _ hS).1
 refine call_len_set ho hex hd hf (by unfold scanBound at hb;omega) ⟨.int (gY zs zs.length),H,I.tok _,⟨_,by rw [hn]⟩,q⟩
end L2
namespace PySem
open PySem PySem.Spec
section
variable {prog:Program}{w:World}{A:Around}{E:Value->Shared->Prop}{h:Heap}{g:Array GenState}{d:Drawn}{t:Nat}{os:OsState}{a:Addr}{o:Obj}
end
end PySem
namespace L2
open PySem PySem.Spec PyProof.Rows
section
variable {prog:Program}{w:World}{A:Around}{R:Result->Shared->Prop}{it:Addr}{fp wr:List Addr}{G:Array GenState->Array GenState->Prop}{P:Nat->Value->Prop}{St:Nat->Shared->Prop}
end
section
variable {prog:Program}{w:World}{A:Around}{E:Value->Shared->Prop}{s:Shared}
end
section
variable {P:Program}{w:World}{K:W.Frag}{mg:Str->Option Value}{base:Heap}
end
structure MC (P:Program) (w:World) (K:PySem.W.Frag) (mg:Str->Option Value) (base:Heap) (C:Addr) (m:Str) (k:Nat) (ps:List Str) (ds:List Value) (dvs:List V) (sp:Sp) (f:Addr) (fd:FuncData):Prop where
 cl:Cls K C
 mt:Meth K C m f
 ok:FnOk P w K mg base CX0 k f fd ps sp
 bd:cj K fd ps ds
 dv:aM dvs ds
section
variable {D:Ends}{σ:St}{H:Hp}{Q:VK}
theorem aA (h:D.nx σ H):yH D σ H:=h
theorem aD {te:TE} (h:te σ H D.rt):Bv te D σ H:=h
theorem aX {te:TE} (h:te σ H λ_ H1=>D.nx σ H1):yJ te D σ H:=h
theorem ag {t u:TS} (h:t { D with nx:=u D } σ H):xa t u D σ H:=h
theorem xF {ta tb:TE} (h:ta σ H λx H1=>∃c,x=.bl c/\if c=true then tb σ H1 Q else Q (.bl false) H1):yK ta tb σ H Q:=h
theorem yY {r:List V->Hp->VK->Prop}{t:TA} (h:t σ H λvs H1=>r vs H1 Q):tCB r t σ H Q:=h
theorem eF {ta:TE}{tr:TA}{R:List V->Hp->Prop} (h:ta σ H λx H1=>tr σ H1 λxs H2=>R (x::xs) H2):cF ta tr σ H R:=h
theorem yW {r:R2}{ta tb:TE} (h:ta σ H λx H1=>tb σ H1 λy H2=>r x y H2 Q):tOp r ta tb σ H Q:=h
theorem yZ {K:W.Frag}{T:String}{r:V->List V->Hp->VK->Prop}{to:TE}{t:TA} (h:to σ H λx H1=>tyV K T x H1/\t σ H1 λxs H2=>r x xs H2 Q):tBM K T r to t σ H Q:=h
theorem aC {te:TE}{g:TG} (h:te σ H λx H1=>g x σ H1 D.nx):xc te g D σ H:=h
end
theorem aH {c:TT}{t u:TS}{D:Ends}{σ:St}{H:Hp} (h:c σ H λb H1=>if b=true then t D σ H1 else u D σ H1):BA c t u D σ H:=h
theorem uT {c:TT}{tb:TS}{D:Ends}{σ:St}{H:Hp} (W:Nat->St->Hp->Prop){m:Nat} (h0:W m σ H) (h:∀m σ H,W m σ H->c σ H λb H1=>if b=true then ∃N:St->Hp->Prop,(∀σ' H',N σ' H'->∃m',m' < m/\W m' σ' H')/\tb { D with nx:=N,ct:=N,bk:=D.nx } σ H1 else D.nx σ H1):tO c tb D σ H:=
 ⟨W,⟨m,h0⟩,h⟩
section
variable {X:Cx}
end
section
variable {X:Cx}
end
section
variable {prog:Program}{w:World}{A:Around}{E:Value->Shared->Prop}
end
theorem zk {X:Cx}{pins:List (Addr × Obj)}{σ:St}{H:Hp}{s:Shared}{p:Addr}{xs:List V} (I:Inv X pins σ H s) (e:H p=some (.lst xs)):∃its:List Value,aM xs its/\s.heap.IsList p its.toArray:=by
 obtain⟨_,its,n,r,h1⟩:=(show bA X.prog X.w H s.heap p (.lst xs) from I.hok p _ e)
 exact⟨its,r,_,h1,rfl,n,rfl⟩
section
variable {X:Cx}
end
theorem uU {t u:TS}{D:Ends}{σ:St}{H:Hp} (Post:St->Hp->Prop) (h1:∀R:St->Hp->Prop,(∀σ' H',Post σ' H'->R σ' H')->t { D with nx:=R } σ H) (h2:∀σ' H',Post σ' H'->u D σ' H'):xa t u D σ H:=h1 _ h2
section
variable {prog:Program}{w:World}{A:Around}{s:Shared}{R:Result->Shared->Prop}{I:Addr}{fp wr:List Addr}{G:Array GenState->Array GenState->Prop}{n:Nat}{P:Nat->Value->Prop}{St:Nat->Shared->Prop}
end
section
variable {prog:Program}{w:World}{A:Around}{E:Value->Shared->Prop}{s:Shared}
end
def Cj (i j:Int):Prop:=0 < j/\j < 2 ^ 64
theorem vk {X:Cx}:OpR X (binaryOp .FloorDiv) (rI Cj λi j=>.int (i / j)):=opI λi j _ _ _ _ _ hc q=>by
 have h1:(0:Int) < j:=hc.1
 have h2:j.natAbs < 2 ^ 64:=by have:=hc.2;omega
 have h3:j.natAbs.log2 < 64:=(Nat.log2_lt ‹1›).mpr h2
 exact floordiv_int ‹1› (by rw [Int.fdiv_eq_ediv_of_nonneg i ‹1›];exact q) (.inl (PyProof.noPylong_of_log2 ‹1›))
section
variable {P:Program}{w:World}{K:W.Frag}{mg:Str->Option Value}{base:Heap}
end
section
variable {P:Program}{w:World}{K:W.Frag}{mg:Str->Option Value}{base:Heap}{N:List Str}{qual:Str}{scope:Scope}{f:Addr}{cd:Value}{A:Around}{outer:List Env}{s:Shared}{H:Hp}{E:XK}
end
section
variable {X:Cx}{pins:List (Addr × Obj)}{σ:St}{H:Hp}{s:Shared}
end
section
variable {X:Cx}
end
section
variable {X:Cx}
end
noncomputable def yM:Expr->Bool
 | .Starred _ _=>true
 | _=>false
theorem rQ {e:Expr}{es:List Expr}{env:Env} (h:yM e=false):starEach (e::es) env=(false,eval e env)::starEach es env:=by
 cases e <;> first | (cases h;done) | (unfold starEach;rfl) | rfl
theorem aa {X:Cx}{e:Expr}{es:List Expr}{te:TE}{t:TA} (ha:PE X e te) (hr:PA X es t) (hs:yM e=false:=by rfl):PA X (e::es) (cF te t):=az ha hr (rQ hs)
section
variable {σ:St}{H:Hp}
end
theorem cL (x:Str):x.length=x.cps.toList.length:=by simp [Str.length]
theorem ja (x y:Str):(x++y).cps.toList=x.cps.toList++y.cps.toList:=by
 show (x.cps++y.cps).toList=_
 rw [Array.toList_append]
theorem vX (zs:List Str):(Str.join ‹""› zs).cps.toList=(zs.map λz=>z.cps.toList).flatten:=by
 induction zs with
 | nil=>rfl
 | cons z zs ih=>
  cases zs with
  | nil=>simp [Str.join]
  | cons y ys=>
   show (z++‹""›++Str.join ‹""› (y::ys)).cps.toList=_
   rw [ja,ja,ih,List.map_cons (l:=y::ys),List.flatten_cons,show ‹""›.cps.toList=[] from rfl,List.append_nil]
theorem BV (zs:List Str):(Txt.join ‹""› zs).cps.toList=(zs.map λz=>z.cps.toList).flatten:=by
 show (Builtin.Str.glued ‹""› zs).cps.toList=_
 rw [StrLaws.glued_eq_join]
 exact vX zs
theorem dc {x y:Str} (h:x.cps.toList=y.cps.toList):x=y:=by
 cases x;cases y
 congr 1
 exact Array.toList_inj.mp h
theorem gS:∀ds:List Nat,((ds.map λd=>(⟨#[d]⟩:Str)).map λz=>z.cps.toList).flatten=ds
 | []=>rfl
 | d::ds=>by rw [List.map_cons,List.map_cons,List.flatten_cons,gS ds];rfl
theorem iD:∀ds:List Nat,((ds.map λd=>(⟨#[d]⟩:Str)).map (·.length)).sum=ds.length
 | []=>rfl
 | d::ds=>by rw [List.map_cons,List.map_cons,List.sum_cons,iD ds,List.length_cons];show 1+_=_;omega
def fW (J:It) (sub:List Nat) (tt:TT) (te:TE) (σ:St) (Q:VK) (H1:Hp):Prop:=∀D,H1 D=none->∃W:Nat->Nat->List V->Hp->Prop,(∃m,W 0 m [] (upd H1 D (.lst [])))/\∀i m ys H2,W i m ys H2->
 (J.stop i H2/\Q (.ref D) H2)\/(J.go i H2/\∃N:List V->Hp->Prop,(∀ys' H',N ys' H'->∃m',m' < m/\W (i+1) m' ys' H')/\∀v H3,J.yld i H2 v H3->tt (some v::bJ sub σ) H3 λb H4=>if b=true then
  te (some v::bJ sub σ) H4 λy H5=>H5 D=some (.lst ys)/\ys.length < sizeLine/\N (ys++[y]) (upd H5 D (.lst (ys++[y])))
  else N ys H4)
section
variable {wi:TI}{sub:List Nat}{tt:TT}{te:TE}{σ:St}{H:Hp}{Q:VK}{K:W.Frag}
theorem de (h:wi σ H λJ H1=>fW J sub tt te σ Q H1):kM wi sub tt te σ H Q:=h
end
end L2
namespace Mine
open PySem L2
variable {P:Program}{w:World}{K:W.Frag}{mg:Str->Option Value}{base:Heap}
noncomputable def top (i:Nat):Stmt:=PySem.Challenge.pw_unsaybook_k33_sums_counts_and_ends.main.body.getD i (.Pass ⟨0,0,0,0⟩)
noncomputable abbrev Ac:Stmt:=top 11
noncomputable abbrev uC:Stmt:=top 9
noncomputable abbrev m8:Stmt:=top 10
noncomputable abbrev jw:Stmt:=top 15
noncomputable abbrev uy:Stmt:=top 27
noncomputable abbrev uP:Stmt:=top 45
noncomputable abbrev A9:Stmt:=top 46
noncomputable abbrev pP:Stmt:=top 47
noncomputable abbrev uw:Stmt:=top 48
noncomputable abbrev pG:Stmt:=top 49
noncomputable abbrev lZ:Stmt:=top 50
noncomputable abbrev uN:Stmt:=top 51
noncomputable abbrev md:Stmt:=top 52
noncomputable abbrev uu:Stmt:=top 53
noncomputable abbrev pH:Stmt:=top 54
structure Cal (P:Program) (w:World) (K:PySem.W.Frag) (mg:Str->Option Value) (base:Heap) (x:Str) (k:Nat) (ps:List Str) (sp:Sp) (f:Addr) (fd:FuncData):Prop where
 ok:FnOk P w K mg base CX0 k f fd ps sp
 nm:mg x=some (.ref f)
 kp:PySem.W.keepIn K (.ref f)=true
 bd:cj K fd ps []
structure Free (mg:Str->Option Value):Prop where
 «len»:mg "len" = none
 «range»:mg "range" = none
 «sorted»:mg "sorted" = none
 «isinstance»:mg "isinstance" = none
 «int»:mg "int" = none
 «bool»:mg "bool" = none
 «str»:mg "str" = none
 «list»:mg "list" = none
 «tuple»:mg "tuple" = none
 «dict»:mg "dict" = none
 «set»:mg "set" = none
 «max»:mg "max" = none
 «min»:mg "min" = none
 «all»:mg "all" = none
 «enumerate»:mg "enumerate" = none
 «abs»:mg "abs" = none
 «reversed»:mg "reversed" = none
 «sum»:mg "sum" = none
def bh (H H':Hp):Prop:=∀b o,H b=some o->H' b=some o
theorem bh.refl {H:Hp}:bh H H:=λ_ _ e=>e
theorem bh.trans {H H1 H2:Hp} (g:bh H H1) (g':bh H1 H2):bh H H2:=λb o e=>g' b o (g b o e)
theorem bh.new {H:Hp}{a:Addr}{o:HO} (n:H a=none):bh H (upd H a o):=λb o e=>by rw [ah (ai e n)];exact e
noncomputable def inZ (z:Str) (c:Nat):Bool:=decide (c∈z.cps.toList)
noncomputable def cJ (x z:Str) (m:Int):Bool:=decide (1<=(x.length:Int)) && (decide ((x.length:Int)<=m) && x.cps.toList.all (inZ z))
noncomputable def ua:Sp:=λvs H Q _=>∃(x z:Str) (m:Int),vs=[.str x,.str z,.int m]/\x.length < sizeLine/\∀H',bh H H'->Q (.bl (cJ x z m)) H'
noncomputable abbrev dk:Str:=‹"abcdefghijklmnopqrstuvwxyz"›
noncomputable abbrev gU:Str:=‹"0123456789"›
structure Con (mg:Str->Option Value):Prop where
 letters:∃t,mg "LETTERS" = some (.str dk t)
 figures:∃t,mg "FIGURES" = some (.str gU t)
 eight:∃t,mg "MOST_LETTERS" = some (.int 8 t)
 twelve:∃t,mg "MOST_FIGURES" = some (.int 12 t)
 lastday:∃t,mg "LAST_DAY" = some (.int 399 t)
 keys:∃t,mg "MOST_KEYS" = some (.int 8 t)
 value:∃t,mg "MOST_VALUE" = some (.int 1000000000 t)
 opn:∃t,mg "MOST_OPEN" = some (.int 3 t)
 rank:∃t,mg "MOST_RANK" = some (.int 400 t)
theorem tI {σ:St}{H:Hp}{Q:VK}{x z:Str} (e0:σ[0]?=some (some (.str x))) (e1:σ[1]?=some (some (.str z))) (hl:x.length < sizeLine)
  (hq:∀(D:Addr) (H':Hp),H D=none->bh H H'->H' D=some (.lst ((x.cps.toList.map (inZ z)).map V.bl))->Q (.ref D) H') :
  kM (BZ (jf 0)) [1] (λ_ H Q=>Q true H) (tOp (λx y H Q=>∃i j,x=.str i/\y=.str j/\Q (.bl (!(Builtin.Str.occurrences j i 0 j.length 1).isEmpty)) H) (jf 0) (jf 1)) σ H Q:=by
 have es:bJ [1] σ=[some (.str z)]:=by
  show [(σ[1]?).join]=_
  rw [e1];rfl
 refine⟨_,e0,x,rfl,λD nD=>wB (x:=x) (sub:=[1]) (tt:=λ_ H Q=>Q true H) (te:=tOp (λx y H Q=>∃i j,x=.str i/\y=.str j/\Q (.bl (!(Builtin.Str.occurrences j i 0 j.length 1).isEmpty)) H) (jf 0) (jf 1)) (Q:=Q) (σ:=σ)
  (λi ys H2=>ys=((x.cps.toList.take i).map (inZ z)).map V.bl/\H2=upd H D (.lst ys)) ⟨rfl,rfl⟩ (λi c ys H2 hi hh=>?_) λys H2 hh=>?_⟩
 ·obtain⟨rfl,rfl⟩:=hh
  rw [es]
  show (if true=true then _ else _)
  rw [if_pos rfl]
  have hi':x.cps.toList[i]?=some c:=by simpa using hi
  have hil:i < x.cps.size:=(Array.getElem?_eq_some_iff.mp hi).1
  refine⟨_,rfl,_,rfl,_,_,rfl,rfl,aj,?_,?_,?_⟩
  ·rw [List.length_map,List.length_map,List.length_take]
   have:x.length < sizeLine:=hl
   have e:x.cps.toList.length=x.length:=by simp [Str.length]
   rw [e]
   omega
  ·rw [List.take_add_one,hi',List.map_append,List.map_append,PySem.StrLaws.found_one]
   rfl
  ·rw [bv]
 ·obtain⟨rfl,rfl⟩:=hh
  refine hq D _ nD (bh.new nD) ?_
  rw [aj,List.take_of_length_le (by simp)]
theorem BG:FnScope ["text", "signs", "most"] ["text", "signs", "most"] (aq Ac):=‹2›
theorem AF {f:Addr}{fd:FuncData} (F:Fun K "has_only" "has_only" Ac f fd) (N:Free mg):FnOk P w K mg base CX0 1 f fd ["text", "signs", "most"] ua:=by
 refine F.ok (k:=0) BG (λvs H Q E h=>?_) (λcdv A outer s H vs Q E hr h=>?_)
 ·obtain⟨x,z,m,rfl,_⟩:=h
  rfl
 ·obtain⟨x,z,m,rfl,hl,hq⟩:=h
  refine⟨_,ao (ay (fj (vh kX kX au (aG mQ (by rfl) N.len PySem.boot_len (az (pv 0) ae)) (pv 2))
   (fi (aG (lC rfl) (by rfl) N.all PyProof.Rows.Boot.«all» (az (vg (y:="signs") (i:=1) rfl (Av (pv 0)) rfl rfl (by decide) (by decide) rfl (by decide) rfl (.inr (.inl rfl)) (by show (some NameKind.cell)≠some NameKind.local;decide) (.inl rfl) rfl (λC fp s H=>df) (λC fp s H=>ck sf (pv 0) (pv 1) (by with_unfolding_all rfl))) ae))))),?_⟩
  have gr:∀{b},cJ x z m=b->Q (.bl b) H:=λ{b} e=>by rw [<- e];exact hq H bh.refl
  refine⟨_,rfl,x,rfl,Nat.le_of_lt hl,_,_,rfl,rfl,_,rfl,dS (λh1=>?_) λh1=>⟨_,rfl,aZ (gr ?_)⟩⟩
  ·refine⟨_,rfl,_,_,rfl,rfl,_,rfl,dS (λh2=>?_) λh2=>gr ?_⟩
   ·unfold tCB cF
    refine tI rfl rfl hl λD H' nD g hD=>⟨D,_,rfl,SqL.of hD,?_⟩
    have e:cJ x z m=(x.cps.toList.map (inZ z)).all id:=by
     unfold cJ
     rw [h1,h2,Bool.true_and,Bool.true_and,List.all_map];rfl
    rw [<- e]
    exact hq H' g
   ·unfold cJ
    rw [Bool.eq_false_iff.mpr h2,Bool.false_and,Bool.and_false]
  ·unfold cJ
   rw [Bool.eq_false_iff.mpr h1,Bool.false_and]
theorem laid {H:Hp}{p:Addr}{o:HO} (h:H p=none):bh H (upd H p o)/\upd H p o p=some o:=⟨λb u e=>by rw [ah (ai e h)];exact e,aj⟩
noncomputable def uc (K:PySem.W.Frag):Sp:=λvs H Q _=>∃(a:Addr) (ns:List Int) (k:Int),vs=[.ref a,.int k]/\SqL K H a (ns.map V.int)/\0<=k/\k < 2 ^ 62/\∀n:Int,Q (.int n) H
noncomputable def tX:Sp:=λvs H Q _=>∃(c k:Int),vs=[.int c,.int k]/\∀n:Int,0<=n->n < 2147483587->Q (.int n) H
def SAt (H:Hp) (s:Addr):Prop:=∃a c k:Int,H s=some (.lst [.int a,.int c,.int k])/\0<=a
def Off (s:Addr) (H H':Hp):Prop:=∀b o,H b=some o->b≠s->H' b=some o
theorem Off.trans {s:Addr}{H H1 H2:Hp} (h:Off s H H1) (g:Off s H1 H2):Off s H H2:=λb o e n=>g _ _ (h _ _ e n) n
theorem Off.grow {s:Addr}{H H':Hp} (g:bh H H'):Off s H H':=λb o e _=>g _ _ e
theorem SAt.keep {H H':Hp}{s:Addr} (h:SAt H s) (g:bh H H'):SAt H' s:=let ⟨a,c,k,e,z⟩:=h;⟨a,c,k,g _ _ e,z⟩
noncomputable def lU:Sp:=λvs H Q _=>∃(c:Int),vs=[.int c]/\∀(p:Addr) (H':Hp),H p=none->bh H H'->SAt H' p->Q (.ref p) H'
noncomputable def eE:Sp:=λvs H Q _=>∃(s:Addr) (m:Int),vs=[.ref s,.int m]/\SAt H s/\0 < m/\m < 2 ^ 64/\∀(n:Int) (H':Hp),0<=n->n < m->Off s H H'->SAt H' s->Q (.int n) H'
theorem A7:FnScope ["_law_script", "_law_k"] ["_law_script", "_law_k"] (aq uP):=‹2›
theorem yd {f:Addr}{fd:FuncData} (F:Fun K "_law_cell" "_law_cell" uP f fd) (N:Free mg):FnOk P w K mg base CX0 1 f fd ["_law_script", "_law_k"] (uc K):=by
 refine F.ok (k:=0) A7 (λvs H Q E h=>?_) (λcdv A outer s H vs Q E hr h=>?_)
 ·obtain⟨a,ns,k,rfl,_⟩:=h
  rfl
 ·obtain⟨a,ns,k,rfl,hS,hk,hk2,q⟩:=h
  have hu:=aL hr
  refine⟨_,(af (bt (aK nN (pv 1) (aG aO (by rfl) N.len PySem.boot_len (az (pv 0) ae)) (aS _)) (ao (ay (bn br (pv 0) (pv 1) (λ_ _=>rfl)))) aI)
   (ao (ay (b8 bV (b8 eL au (pv 1)) au)))),?_⟩
  refine ag (aH ⟨_,rfl,_,rfl,a,_,rfl,.inl hS,_,_,rfl,rfl,_,rfl,?_⟩)
  refine dS (λhlt=>?_) (λ_=>?_)
  ·have hlt:k < ((ns.map V.int).length:Int):=of_decide_eq_true hlt
   rw [List.length_map]at hlt
   obtain⟨j,rfl⟩:∃j:Nat,k=(j:Int):=⟨k.toNat,by omega⟩
   have hk2:j < ns.length:=by omega
   refine⟨_,rfl,_,rfl,a,_,(j:Int),.int ns[j],rfl,rfl,hS,fM ?_,q _⟩
   rw [List.getElem?_map,List.getElem?_eq_getElem hk2]
   rfl
  ·refine aA ?_
   exact⟨_,rfl,_,_,rfl,rfl,.inl ⟨by decide,by decide⟩,_,_,rfl,rfl,q _⟩
theorem uk:FnScope ["_law_cell_here", "_law_k", "_law_number"] ["_law_cell_here", "_law_k"] (aq A9):=‹2›
theorem AC {f:Addr}{fd:FuncData} (F:Fun K "_law_mix" "_law_mix" A9 f fd)  : FnOk P w K mg base CX0 1 f fd ["_law_cell_here", "_law_k"] tX:=by
 refine F.ok (k:=0) uk (λvs H Q E h=>?_) (λcdv A outer s H vs Q E hr h=>?_)
 ·obtain⟨c,k,rfl,_⟩:=h
  rfl
 ·obtain⟨c,k,rfl,q⟩:=h
  have hu:=aL hr
  refine⟨_,(af (aE (i:=2) uk.nd rfl (Or.inl rfl) (b8 gk (b8 eL (b8 bV (b8 bV (b8 gk (pv 0) au) (b8 eL au (pv 1))) au) au) au))
   (af (aE (i:=2) uk.nd rfl (Or.inl rfl) (b8 gk (b8 bV (b8 eL (pv 2) (pv 2)) (b8 eL au (pv 1))) au))
   (ao (ay (b8 gk (b8 eL (pv 2) (b8 bV (pv 2) au)) au))))),?_⟩
  have small:∀(x:Int){m:Int},0 < m->m < 2 ^ 64->-(2 ^ 64) < x % m/\x % m < 2 ^ 64:=λx m h1 h2=>by
   have a:=Int.emod_nonneg x (Int.ne_of_gt h1)
   have b:=Int.emod_lt_of_pos x h1
   omega
  refine⟨_,rfl,_,_,rfl,rfl,(by show (0:Int) < 2147483629;decide),_,rfl,_,_,rfl,rfl,.inl ⟨by decide,by decide⟩,_,_,rfl,rfl,_,_,rfl,rfl,_,_,rfl,rfl,.inr ⟨by decide,by decide⟩,_,_,rfl,rfl,(by show (0:Int) < 2147483647;decide),?_⟩
  refine⟨_,rfl,_,rfl,_,_,rfl,rfl,.inl (small _ (by decide) (by decide)),_,rfl,_,_,rfl,rfl,.inl ⟨by decide,by decide⟩,_,_,rfl,rfl,_,_,rfl,rfl,(by show (0:Int) < 2147483629;decide),?_⟩
  refine⟨_,rfl,_,rfl,_,_,rfl,rfl,_,_,rfl,rfl,.inl (small _ (by decide) (by decide)),_,_,rfl,rfl,(by show (0:Int) < 2147483587;decide),?_⟩
  exact q _ (Int.emod_nonneg _ (by decide)) (Int.emod_lt_of_pos _ (by decide))
theorem xz:FnScope ["_law_cell_here"] ["_law_cell_here"] (aq pP):=‹2›
theorem vI {f:Addr}{fd:FuncData} (F:Fun K "_law_begun" "_law_begun" pP f fd)  : FnOk P w K mg base CX0 1 f fd ["_law_cell_here"] lU:=by
 refine F.ok (k:=0) xz (λvs H Q E h=>?_) (λcdv A outer s H vs Q E hr h=>?_)
 ·obtain⟨c,rfl,_⟩:=h
  rfl
 ·obtain⟨c,rfl,q⟩:=h
  have hu:=aL hr
  refine⟨_,(af (bt (aK BQ (pv 0) (b8 pU au au) (aS _)) (ao (ay (aR (az (pv 0) (az (pv 0) (az au ae)))))) aI)
   (ao (ay (aR (az au (az (pv 0) (az au ae))))))),?_⟩
  refine ag (aH ⟨_,rfl,_,_,rfl,rfl,⟨by decide,by decide,by decide⟩,_,_,rfl,rfl,_,rfl,dS (λhc=>?_) λ_=>?_⟩)
  ·have hc:c>=10 ^ Int.toNat 18:=of_decide_eq_true hc
   have h18:(10:Int) ^ Int.toNat 18=1000000000000000000:=by decide
   rw [h18]at hc
   exact⟨_,rfl,_,rfl,by show 3<=sizeLine;decide,λp np=>q p _ np (laid np).1 ⟨c,c,0,aj,by omega⟩⟩
  ·exact aA ⟨_,rfl,by show 3<=sizeLine;decide,λp np=>q p _ np (laid np).1 ⟨0,c,0,aj,by decide⟩⟩
theorem ui:FnScope ["_law_state", "_law_many", "_law_number"] ["_law_state", "_law_many"] (aq uw):=‹2›
theorem xQ {f f1:Addr}{fd:FuncData} (F:Fun K "_law_pull" "_law_pull" uw f fd){fd1:FuncData} (CM:Cal P w K mg base "_law_mix" 1 ["_law_cell_here", "_law_k"] tX f1 fd1):FnOk P w K mg base CX0 2 f fd ["_law_state", "_law_many"] eE:=by
 refine F.ok (k:=1) ui (λvs H Q E h=>?_) (λcdv A outer s H vs Q E hr h=>?_)
 ·obtain⟨s,m,rfl,_⟩:=h
  rfl
 ·obtain⟨s,m,rfl,⟨a,c,k,hs,ha⟩,hm,hm2,q⟩:=h
  have hu:=aL hr
  refine⟨_,(af (bt (aK BP (bn br (pv 0) au (λ_ _=>rfl)) au (aS _)) (af (aE (i:=2) ui.nd rfl (Or.inl rfl) (b8 gk (bn br (pv 0) au (λ_ _=>rfl)) (pv 1)))
   (af (ij (b8 vk (bn br (pv 0) au (λ_ _=>rfl)) (pv 1)) (vb (pv 0) au nk))
   (ao (ay (pv 2))))) aI)
   (af (ij (b8 bV (bn br (pv 0) au (λ_ _=>rfl)) au) (vb (pv 0) au nk))
   (ao (ay (b8 gk (aw CM.ok (hr.mono (by decide)) rfl CM.nm CM.kp CM.bd .nil av (az (bn br (pv 0) au (λ_ _=>rfl)) (az (bn br (pv 0) au (λ_ _=>rfl)) ae))) (pv 1)))))),?_⟩
  have at0:SqL K H s [.int a,.int c,.int k]:=SqL.of hs
  refine ag (aH ⟨_,rfl,s,_,0,_,rfl,rfl,at0,rfl,_,_,rfl,rfl,_,rfl,dS (λhc=>?_) λhc=>?_⟩)
  ·refine ag (aC ⟨_,rfl,s,_,0,_,rfl,rfl,at0,rfl,_,rfl,_,_,rfl,rfl,hm,?_⟩)
   walk_at "d"
   refine ag (aC ⟨_,rfl,s,_,0,_,rfl,rfl,at0,rfl,_,rfl,_,_,rfl,rfl,⟨hm,hm2⟩,?_⟩)
   refine⟨_,rfl,s,_,0,0,rfl,rfl,hs,rfl,aD ⟨_,rfl,?_⟩⟩
   exact q (a % m) _ (Int.emod_nonneg _ ‹1›) (Int.emod_lt_of_pos _ hm) (λb o e n=>by rw [ah n];exact e) ⟨a / m,c,k,aj,Int.ediv_nonneg ha ‹1›⟩
  ·refine aA ?_
   dsimp only
   refine ag (aC ⟨_,rfl,s,_,2,_,rfl,rfl,at0,rfl,_,_,rfl,rfl,_,rfl,s,_,2,2,rfl,rfl,hs,rfl,?_⟩)
   walk_at "d"
   refine⟨_,rfl,s,_,1,_,rfl,rfl,SqL.of aj,rfl,_,rfl,s,_,2,_,rfl,rfl,SqL.of aj,rfl,c,k+1,rfl,λn n0 n1=>⟨_,rfl,_,_,rfl,rfl,hm,?_⟩⟩
   exact q (n % m) _ (Int.emod_nonneg _ ‹1›) (Int.emod_lt_of_pos _ hm) (λb o e n=>by rw [ah n];exact e) ⟨a,c,k+1,aj,ha⟩
noncomputable def n8:Sp:=λvs H Q _=>∃(s:Addr),vs=[.ref s]/\SAt H s/\∀(t:Addr) (lo wd:Int) (H':Hp),Off s H H'->SAt H' s->H' t=some (.tup [.int lo,.int wd])->t≠s->0<=lo->1<=wd->lo+wd<=400->(wd<=40\/wd=400)->Q (.ref t) H'
noncomputable def pf:Sp:=λvs H Q _=>∃(s t:Addr) (lo wd:Int),vs=[.ref s,.ref t]/\SAt H s/\H t=some (.tup [.int lo,.int wd])/\t≠s/\0<=lo/\1<=wd/\lo+wd<=400/\∀(u:Addr) (f l:Int) (H':Hp),Off s H H'->SAt H' s->H' u=some (.tup [.int f,.int l])->lo<=f->f<=l->l < lo+wd->Q (.ref u) H'
noncomputable def jp:Sp:=λvs H Q _=>∃(s:Addr),vs=[.ref s]/\SAt H s/\∀(n:Int) (H':Hp),Off s H H'->SAt H' s->-1000000000<=n->n<=1000000000->Q (.int n) H'
theorem C5 {d:Int} (h0:0<=d) (h1:d < 4):∃m:Int,1<=m/\m<=400/\(m<=40\/m=400)/\atI [V.int 1,V.int 12,V.int 40,V.int 400] d=some (V.int m):=by
 rcases (show d=0\/d=1\/d=2\/d=3 by omega) with rfl | rfl | rfl | rfl
 ·exact⟨1,by decide,by decide,by decide,rfl⟩
 ·exact⟨12,by decide,by decide,by decide,rfl⟩
 ·exact⟨40,by decide,by decide,by decide,rfl⟩
 ·exact⟨400,by decide,by decide,by decide,rfl⟩
theorem SAt.ne {H:Hp}{s t:Addr}{xs:List V} (h:SAt H s) (e:H t=some (.tup xs)):t≠s:=λz=>by
 obtain⟨a,c,k,e',_⟩:=h
 rw [z,e']at e
 cases e
theorem ny:FnScope ["_law_state", "_law_wide"] ["_law_state"] (aq lZ):=‹2›
theorem sk {f f1:Addr}{fd:FuncData} (F:Fun K "_law_window" "_law_window" lZ f fd){fd1:FuncData} (CP:Cal P w K mg base "_law_pull" 2 ["_law_state", "_law_many"] eE f1 fd1):FnOk P w K mg base CX0 3 f fd ["_law_state"] n8:=by
 refine F.ok (k:=2) ny (λvs H Q E h=>?_) (λcdv A outer s H vs Q E hr h=>?_)
 ·obtain⟨s,rfl,_⟩:=h
  rfl
 ·obtain⟨s,rfl,hs,q⟩:=h
  have hu:=aL hr
  refine⟨_,(af (aE (i:=1) ny.nd rfl (Or.inl rfl) (bn br (aR (az au (az au (az au (az au ae))))) (aw CP.ok (hr.mono (by decide)) rfl CP.nm CP.kp CP.bd .nil av (az (pv 0) (az au ae))) (λ_ _=>rfl)))
   (ao (ay (bN (az (aw CP.ok (hr.mono (by decide)) rfl CP.nm CP.kp CP.bd .nil av (az (pv 0) (az (b8 mo au (pv 1)) ae))) (az (pv 1) ae)))))),?_⟩
  refine ag (aC ⟨by show 4<=sizeLine;decide,λl nl=>?_⟩)
  obtain⟨g1,e1⟩:=laid (o:=.lst [V.int 1,V.int 12,V.int 40,V.int 400]) nl
  have hs1:=hs.keep g1
  generalize upd H l _=H1 at g1 e1 hs1 ⊢
  refine⟨_,rfl,s,4,rfl,hs1,by decide,by decide,λn H2 n0 n1 o2 hs2=>?_⟩
  obtain⟨m,m1,m2,m3,em⟩:=C5 n0 n1
  have nls:l≠s:=λz=>by
   obtain⟨a,c,k,e',_⟩:=hs
   rw [z,e']at nl;cases nl
  refine⟨l,_,_,_,rfl,rfl,SqL.of (o2 _ _ e1 nls),em,?_⟩
  walk_at "d"
  refine aD ⟨_,rfl,_,rfl,_,_,rfl,rfl,s,401 - m,rfl,hs2,by omega,by omega,λlo H3 l0 l1 o3 hs3=>⟨_,rfl,by show 2<=sizeLine;decide,λt nt=>?_⟩⟩
  obtain⟨g4,e4⟩:=laid (o:=.tup [V.int lo,V.int m]) nt
  exact q t lo m _ (((Off.grow g1).trans o2).trans (o3.trans (Off.grow g4))) (hs3.keep g4) e4 (SAt.ne (hs3.keep g4) e4) l0 m1 ‹1› m3
theorem uo:FnScope ["_law_state", "_law_window_here", "_law_first"] ["_law_state", "_law_window_here"] (aq uN):=‹2›
theorem yb {f f1:Addr}{fd:FuncData} (F:Fun K "_law_days" "_law_days" uN f fd){fd1:FuncData} (CP:Cal P w K mg base "_law_pull" 2 ["_law_state", "_law_many"] eE f1 fd1):FnOk P w K mg base CX0 3 f fd ["_law_state", "_law_window_here"] pf:=by
 refine F.ok (k:=2) uo (λvs H Q E h=>?_) (λcdv A outer s H vs Q E hr h=>?_)
 ·obtain⟨s,t,lo,wd,rfl,_⟩:=h
  rfl
 ·obtain⟨s,t,lo,wd,rfl,hs,et,nts,h0,h1,h2,q⟩:=h
  have hu:=aL hr
  refine⟨_,(af (aE (i:=2) uo.nd rfl (Or.inl rfl) (b8 bV (bn cw (pv 1) au (λ_ _=>rfl)) (aw CP.ok (hr.mono (by decide)) rfl CP.nm CP.kp CP.bd .nil av (az (pv 0) (az (bn cw (pv 1) au (λ_ _=>rfl)) ae)))))
   (ao (ay (bN (az (pv 2) (az (b8 bV (pv 2) (aw CP.ok (hr.mono (by decide)) rfl CP.nm CP.kp CP.bd .nil av (az (pv 0) (az (b8 mo (b8 bV (bn cw (pv 1) au (λ_ _=>rfl)) (bn cw (pv 1) au (λ_ _=>rfl))) (pv 2)) ae)))) ae)))))),?_⟩
  refine ag (aC ⟨_,rfl,t,_,0,_,rfl,rfl,SqT.of et,rfl,_,rfl,_,rfl,t,_,1,_,rfl,rfl,SqT.of et,rfl,s,wd,rfl,hs,by omega,by omega,λn H2 n0 n1 o2 hs2=>⟨_,_,rfl,rfl,?_⟩⟩)
  walk_at "d"
  have et2:=o2 _ _ et nts
  refine aD ⟨_,rfl,_,rfl,_,rfl,_,rfl,t,_,0,_,rfl,rfl,SqT.of et2,rfl,_,rfl,t,_,1,_,rfl,rfl,SqT.of et2,rfl,_,_,rfl,rfl,_,rfl,_,_,rfl,rfl,s,_,rfl,hs2,by omega,by omega,λm H3 m0 m1 o3 hs3=>⟨_,_,rfl,rfl,by show 2<=sizeLine;decide,λu nu=>?_⟩⟩
  obtain⟨g4,e4⟩:=laid (o:=.tup [V.int (lo+n),V.int (lo+n+m)]) nu
  exact q u (lo+n) (lo+n+m) _ (o2.trans (o3.trans (Off.grow g4))) (hs3.keep g4) e4 ‹1› ‹1› ‹1›
theorem nz:FnScope ["_law_state", "_law_way"] ["_law_state"] (aq md):=‹2›
theorem sx {f f1:Addr}{fd:FuncData} (F:Fun K "_law_amount" "_law_amount" md f fd){fd1:FuncData} (CP:Cal P w K mg base "_law_pull" 2 ["_law_state", "_law_many"] eE f1 fd1):FnOk P w K mg base CX0 3 f fd ["_law_state"] jp:=by
 refine F.ok (k:=2) nz (λvs H Q E h=>?_) (λcdv A outer s H vs Q E hr h=>?_)
 ·obtain⟨s,rfl,_⟩:=h
  rfl
 ·obtain⟨s,rfl,hs,q⟩:=h
  have hu:=aL hr
  refine⟨_,(af (aE (i:=1) nz.nd rfl (Or.inl rfl) (aw CP.ok (hr.mono (by decide)) rfl CP.nm CP.kp CP.bd .nil av (az (pv 0) (az au ae))))
   (af (bt (aK nN (pv 1) au (aS _)) (ao (ay (aw CP.ok (hr.mono (by decide)) rfl CP.nm CP.kp CP.bd .nil av (az (pv 0) (az au ae))))) aI)
   (af (bt (aK bK (pv 1) au (aS _)) (ao (ay (b8 mo (aw CP.ok (hr.mono (by decide)) rfl CP.nm CP.kp CP.bd .nil av (az (pv 0) (az au ae))) au))) aI)
   (ao (ay (b8 mo (aw CP.ok (hr.mono (by decide)) rfl CP.nm CP.kp CP.bd .nil av (az (pv 0) (az (b8 bV (b8 eL au (b8 pU au au)) au) ae))) (b8 pU au au))))))),?_⟩
  refine ag (aC ⟨_,rfl,s,4,rfl,hs,by decide,by decide,λn H2 n0 n1 o2 hs2=>?_⟩)
  walk_at "d"
  refine ag (aH ⟨_,rfl,_,_,rfl,rfl,_,rfl,dS (λ_=>?_) λ_=>aA ?_⟩)
  ·exact aD ⟨_,rfl,s,4,rfl,hs2,by decide,by decide,λm H3 m0 m1 o3 hs3=>q m H3 (o2.trans o3) hs3 ‹1› ‹1›⟩
  dsimp only
  refine ag (aH ⟨_,rfl,rfl,_,rfl,dS (λ_=>?_) λ_=>aA ?_⟩)
  ·exact aD ⟨_,rfl,s,41,rfl,hs2,by decide,by decide,λm H3 m0 m1 o3 hs3=>⟨_,_,rfl,rfl,q (m - 20) H3 (o2.trans o3) hs3 ‹1› ‹1›⟩⟩
  dsimp only
  have h9:(10:Int) ^ Int.toNat 9=1000000000:=by decide
  refine aD ⟨_,rfl,_,_,rfl,rfl,⟨by decide,by decide,by decide⟩,_,_,rfl,rfl,.inl ⟨by decide,by decide⟩,_,_,rfl,rfl,s,_,rfl,hs2,by decide,by decide,λm H3 m0 m1 o3 hs3=>⟨_,_,rfl,rfl,⟨by decide,by decide,by decide⟩,_,_,rfl,rfl,?_⟩⟩
  rw [h9]at m1 ⊢
  exact q _ H3 (o2.trans o3) hs3 ‹1› ‹1›
theorem jT {α:Type}:∀(xs:List α) (j:Nat) (h:j < xs.length),(xs[j]::xs.eraseIdx j).Perm xs
 | x::xs,0,_=>.refl _
 | x::xs,j+1,h=>by
  have ih:=jT xs j (Nat.lt_of_succ_lt_succ h)
  rw [List.eraseIdx_cons_succ,List.getElem_cons_succ]
  exact(List.Perm.swap _ _ _).trans (ih.cons x)
noncomputable def pc:Sp:=λvs H Q _=>∃(s ln:Addr) (ss:List Str) (m:Int),vs=[.ref s,.ref ln,.int m]/\SAt H s/\H ln=some (.lst (ss.map V.str))/\ln≠s/\1<=m/\1<=ss.length/\ss.length<=100/\
 ∀(p:Addr) (xs ys:List Str) (H':Hp),H p=none->Off s H H'->SAt H' s->H' p=some (.lst (xs.map V.str))->xs≠[]->(xs++ys).Perm ss->(xs.length:Int)<=m->Q (.ref p) H'
inductive SoI (H:Hp) (s ln l p:Addr) (ss:List Str) (m:Int) (i:Nat) (σ:St) (H2:Hp):Prop
 | mk (xs ys:List Str) (v5:Option V) (h1:σ=[some (.ref s),some (.ref ln),some (.int m),some (.ref l),some (.ref p),v5]) (h2:Off s H H2) (h3:SAt H2 s) (h4:H2 l=some (.lst (ys.map V.str))) (h5:H2 p=some (.lst (xs.map V.str))) (h6:(xs++ys).Perm ss) (h7:xs.length=i):SoI H s ln l p ss m i σ H2
theorem SAt.lst {H:Hp}{s:Addr} (h:SAt H s):∃xs,H s=some (.lst xs):=let ⟨_,_,_,e,_⟩:=h;⟨_,e⟩
theorem SAt.off {H H':Hp}{s b:Addr} (h:SAt H s) (n:b≠s) (g:∀b' o,H b'=some o->b'≠b->H' b'=some o):SAt H' s:=let ⟨a,c,k,e,z⟩:=h;⟨a,c,k,g _ _ e (Ne.symm n),z⟩
theorem lY:FnScope ["_law_state", "_law_names_here", "_law_most", "_law_left", "_law_found", "_law_k"] ["_law_state", "_law_names_here", "_law_most"] (aq uu):=‹2›
theorem xP {f f1:Addr}{fd:FuncData} (F:Fun K "_law_some" "_law_some" uu f fd) (N:Free mg){fd1:FuncData} (CP:Cal P w K mg base "_law_pull" 2 ["_law_state", "_law_many"] eE f1 fd1):FnOk P w K mg base CX0 3 f fd ["_law_state", "_law_names_here", "_law_most"] pc:=by
 refine F.ok (k:=2) lY (λvs H Q E h=>?_) (λcdv A outer s H vs Q E hr h=>?_)
 ·obtain⟨s,ln,ss,m,rfl,_⟩:=h
  rfl
 ·obtain⟨s,ln,ss,m,rfl,hs,el,nls,m1,m2,h100,q⟩:=h
  have hu:=aL hr
  refine⟨_,(af (aE (i:=3) lY.nd rfl (Or.inl rfl) (aQ eU (by rfl) N.list PyProof.Rows.Boot.«list» (aa (pv 1) ae)))
   (af (aE (i:=4) lY.nd rfl (Or.inl rfl) (aR ae))
   (af (eJ PassesOwn.never rfl (dt rfl N.range (aa (b8 bV au (aw CP.ok (hr.mono (by decide)) rfl CP.nm CP.kp CP.bd .nil av (aa (pv 0) (aa (aG (iy rfl) (by rfl) N.min PyProof.Rows.Boot.«min» (aa (pv 2) (aa (aG aO (by rfl) N.len PySem.boot_len (aa (pv 1) ae)) ae))) ae)))) ae)) (bC (i:=5) lY.nd rfl (Or.inl rfl))
   (ao (aY (cK PySem.F.plainAttrs_list PySem.F.slot_list_append PySem.F.type_list_append du (pv 4) (aa (cK PySem.F.plainAttrs_list PySem.F.slot_list_pop PySem.F.type_list_pop vP (pv 3) (aa (aw CP.ok (hr.mono (by decide)) rfl CP.nm CP.kp CP.bd .nil av (aa (pv 0) (aa (aG aO (by rfl) N.len PySem.boot_len (aa (pv 3) ae)) ae))) ae)) ae)))))
   (ao (ay (pv 4)))))),?_⟩
  refine ag (aC ⟨_,rfl,ln,_,rfl,.inl (SqL.of el),λl nl=>?_⟩)
  walk_at "d"
  obtain⟨g1,e1⟩:=laid (o:=.lst (ss.map V.str)) nl
  have hs1:=hs.keep g1
  have nl2:l≠s:=λz=>by obtain⟨xs,e⟩:=hs.lst;rw [z,e]at nl;cases nl
  generalize upd H l _=H1 at g1 e1 hs1 ⊢
  refine ag (aC ⟨by show 0<=sizeLine;decide,λp np=>?_⟩)
  walk_at "d"
  obtain⟨g2,e2⟩:=laid (o:=.lst []) np
  have np0:H p=none:=by
   cases e:H p with
   | none=>rfl
   | some o=>rw [g1 _ _ e]at np;cases np
  have nl0:H l=none:=nl
  have hs2:=hs1.keep g2
  have np2:p≠s:=λz=>by obtain⟨xs,e⟩:=hs1.lst;rw [z,e]at np;cases np
  have npl:p≠l:=λz=>by rw [z,e1]at np;cases np
  have e1:=g2 _ _ e1
  have g12:=g1.trans g2
  generalize upd H1 p _=H2 at g2 e2 hs2 e1 g12 ⊢
  have hle:(ss.length:Int)<=100:=by omega
  obtain⟨mm,emm,mm1,mm2,mm3⟩:∃mm:Int,mm=(if ((ss.map V.str).length:Int) < m then ((ss.map V.str).length:Int) else m)/\1<=mm/\mm<=m/\mm<=ss.length:=by
   rw [List.length_map]
   refine⟨_,rfl,?_⟩
   split <;> omega
  refine ag ⟨_,rfl,_,rfl,_,rfl,ln,_,rfl,.inl (SqL.of (g12 _ _ el)),m,_,rfl,?_⟩
  rw [<- emm]
  refine⟨s,mm,rfl,hs2,by omega,by omega,λr H3 r0 r1 o3 hs3=>⟨_,_,rfl,rfl,_,rfl,by omega,by omega,eg (n:=(1+r).toNat) (SoI H s ln l p ss m) ⟨[],ss,none,rfl,(Off.grow g12).trans o3,hs3,o3 _ _ e1 nl2,o3 _ _ e2 np2,.refl _,rfl⟩ (λi σ H4 hi hh=>?_) λσ H4 hh=>?_⟩⟩
  ·obtain⟨xs,ys,v5,rfl,o4,hs4,el4,ep4,pm,hl⟩:=hh
   walk_at "d"
   have hlen:=pm.length_eq
   rw [List.length_append]at hlen
   have hys:0 < ys.length:=by omega
   refine aX ⟨_,rfl,.inl ⟨rfl,_,SqL.of ep4⟩,_,rfl,.inl ⟨rfl,_,SqL.of el4⟩,_,rfl,_,rfl,l,_,rfl,.inl (SqL.of el4),s,_,rfl,hs4,?_,?_,λj H5 j0 j1 o5 hs5=>?_⟩
   ·rw [List.length_map];omega
   ·rw [List.length_map];omega
   ·rw [List.length_map]at j1
    have el5:=o5 _ _ el4 nl2
    have ep5:=o5 _ _ ep4 np2
    obtain⟨jn,rfl⟩:∃jn:Nat,j=(jn:Int):=⟨j.toNat,by omega⟩
    have hj:jn < ys.length:=by omega
    refine⟨l,_,_,jn,.str ys[jn],rfl,rfl,el5,by omega,by omega,by rw [PySem.StrLaws.seqIndex_nonneg ‹1› (by rw [List.length_map];omega)];rfl,by rw [List.getElem?_map,List.getElem?_eq_getElem hj];rfl,?_⟩
    have o6:∀b o,H5 b=some o->b≠l->upd H5 l (.lst ((ys.map V.str).eraseIdx jn)) b=some o:=λb o e n=>by rw [ah n];exact e
    refine⟨p,_,_,rfl,rfl,o6 _ _ ep5 npl,by rw [List.length_map];exact bj ‹1›,xs++[ys[jn]],ys.eraseIdx jn,_,rfl,λb o e n=>?_,?_,?_,?_,?_,by rw [List.length_append,hl];rfl⟩
    ·rw [ah (ai e np0)]
     exact o6 _ _ ((o4.trans o5) _ _ e n) (ai e nl0)
    ·refine(hs5.off nl2 o6).off np2 λb o e n=>?_
     rw [ah n];exact e
    ·rw [ah (Ne.symm npl),aj,fV]
    ·rw [aj,List.map_append];rfl
    ·have e9:(ys[jn]::ys.eraseIdx jn).Perm ys:=jT ys jn hj
     rw [List.append_assoc]
     exact((List.Perm.refl xs).append e9).trans pm
  ·obtain⟨xs,ys,v5,rfl,o4,hs4,el4,ep4,pm,hl⟩:=hh
   refine aD ⟨_,rfl,q p xs ys _ np0 o4 hs4 ep4 ?_ pm ?_⟩
   ·intro z
    rw [z]at hl
    have:(1+r).toNat=0:=hl.symm
    omega
   ·rw [hl];omega
theorem AO {i:Int} (h0:0<=i) (h1:i < 26):atI dk.cps.toList i=some (97+i.toNat):=by
 obtain⟨j,rfl⟩:∃j:Nat,i=(j:Int):=⟨i.toNat,by omega⟩
 refine fM ?_
 have hj:j < 26:=by omega
 rw [Int.toNat_natCast]
 have:∀j,j < 26->dk.cps.toList[j]?=some (97+j):=‹0›
 exact this j hj
def yB (c:Nat):Prop:=97<=c/\c<=122
theorem yj {c:Nat} (h:yB c):inZ dk c=true:=by
 unfold inZ
 refine decide_eq_true ?_
 have:∀c,c < 123->97<=c->c∈dk.cps.toList:=‹0›
 exact this c (by unfold yB at h;omega) h.1
noncomputable abbrev w12:List Str:=[‹"number"›, ‹"value"›, ‹"sum"›, ‹"count"›, ‹"least"›, ‹"since"›, ‹"part"›, ‹"change"›, ‹"plus"›, ‹"less"›, ‹"same"›, ‹"minus"›]
theorem yi {k:Str} (h1:1<=k.length) (h2:k.length<=8) (hc:∀c∈k.cps.toList,yB c):cJ k dk 8=true:=by
 unfold cJ
 rw [decide_eq_true (show (1:Int)<=k.length by omega),decide_eq_true (show (k.length:Int)<=8 by omega),Bool.true_and,Bool.true_and,List.all_eq_true]
 exact λc hcc=>yj (hc c hcc)
def Nms (ss:List Str):Prop:=ss.length=8/\ss.Nodup/\∀x∈ss,cJ x dk 8=true
noncomputable def rot (j:Nat):List Str:=((w12.drop j)++(w12.take j)).take 8
theorem Ag:∀j:Fin 12,(rot j.val).length=8/\(rot j.val).Nodup/\∀x∈rot j.val,cJ x dk 8=true:=‹0›
theorem xC:∀j:Fin 12,dH (dH (w12.map V.str) (some (j.val:Int)) none++dH (w12.map V.str) none (some (j.val:Int))) none (some 8)=(rot j.val).map V.str:=‹0›
theorem wE {sub:List Nat}{te:TE}{σ:St}{H:Hp}{Q:VK}{n:Nat}{s:Addr} (hs:SAt H s) (hn:n<=1000) (P:Int->Prop) (hte:∀(i:Nat) (H2:Hp) (R:VK),i < n->SAt H2 s->(∀x H3,P x->Off s H2 H3->SAt H3 s->R (.int x) H3)->te (some (.int (0+(i:Int)))::bJ sub σ) H2 R)
  (hq:∀(D:Addr) (bs:List Int) (H':Hp),H D=none->Off s H H'->SAt H' s->H' D=some (.lst (bs.map V.int))->bs.length=n->(∀x∈bs,P x)->Q (.ref D) H'):fW (Itr 0 n) sub (λ_ H Q=>Q true H) te σ Q H:=by
 intro D nD
 have nDs:D≠s:=λz=>by obtain⟨xs,e⟩:=hs.lst;rw [z,e]at nD;cases nD
 refine eT (lo:=0) (n:=n) (sub:=sub) (tt:=λ_ H Q=>Q true H) (te:=te) (Q:=Q) (σ:=σ) (λi ys H2=>∃bs:List Int,ys=bs.map V.int/\bs.length=i/\H2 D=some (.lst ys)/\Off s H H2/\SAt H2 s/\∀x∈bs,P x) ⟨[],rfl,rfl,aj,Off.grow (laid nD).1,hs.keep (laid nD).1,(λ_ z=>nomatch z)⟩ (λi ys H2 hi hh=>?_) λys H2 hh=>?_
 ·obtain⟨bs,rfl,hl,e2,o2,s2,h2⟩:=hh
  refine bB (hte i _ _ hi s2 λx H3 hx o3 s3=>⟨o3 _ _ e2 nDs,by rw [List.length_map];exact bj ‹1›,bs++[x],by rw [List.map_append];rfl,by rw [List.length_append,hl];rfl,aj,λb o e nb=>by rw [ah (ai e nD)];exact o3 _ _ (o2 _ _ e nb) nb,s3.off nDs (λb o e nb=>by rw [ah nb];exact e),λy hy=>?_⟩)
  rcases List.mem_append.mp hy with hy | hy
  ·exact h2 y hy
  ·rw [List.mem_singleton.mp hy];exact hx
 ·obtain⟨bs,rfl,hl,e2,o2,s2,h2⟩:=hh
  exact hq D bs H2 nD o2 s2 e2 hl h2
theorem wC {K:W.Frag}{la:Addr}{zs:List Int}{sub:List Nat}{te:TE}{σ:St}{Q:VK}{H:Hp} (g:Int->Str) (hn:zs.length < 1000) (ha:H la=some (.lst (zs.map V.int))) (hte:∀(z:Int) (H2:Hp) (R:VK),R (.str (g z)) H2->te (some (.int z)::bJ sub σ) H2 R)
  (hq:∀(D:Addr),H D=none->Q (.ref D) (upd H D (.lst ((zs.map g).map V.str)))):fW (Itl K la) sub (λ_ H Q=>Q true H) te σ Q H:=by
 intro D nD
 have nl:la≠D:=ai ha nD
 refine eA (K:=K) (a:=la) (xs:=zs.map V.int) (sub:=sub) (tt:=λ_ H Q=>Q true H) (te:=te) (Q:=Q) (σ:=σ) (λi ys H2=>ys=((zs.take i).map g).map V.str/\H2=upd H D (.lst ys)) ⟨by rw [List.take_zero];rfl,rfl⟩ (λi ys H2 _ hh=>?_) (λi x ys H2 hi hh=>?_) λys H2 hh=>?_
 ·obtain⟨_,rfl⟩:=hh
  exact SqL.of (by rw [ah nl];exact ha)
 ·obtain⟨rfl,rfl⟩:=hh
  rw [List.getElem?_map]at hi
  obtain⟨z,hz,rfl⟩:=Option.map_eq_some_iff.mp hi
  refine bB (hte z _ _ ⟨aj,?_,?_,bv⟩)
  ·rw [List.length_map,List.length_map,List.length_take];exact bj ‹1›
  ·rw [List.take_add_one,hz,List.map_append,List.map_append];rfl
 ·obtain⟨rfl,rfl⟩:=hh
  rw [List.length_map,List.take_length]
  exact hq D nD
theorem wF {sub:List Nat}{te:TE}{σ:St}{H:Hp}{Q:VK}{n:Nat} (f:Nat->V) (hn:n<=1000) (hte:∀(i:Nat) (H2:Hp) (R:VK),i < n->bh H H2->R (f i) H2->te (some (.int (0+(i:Int)))::bJ sub σ) H2 R)
  (hq:∀D,H D=none->Q (.ref D) (upd H D (.lst ((List.range n).map f)))):fW (Itr 0 n) sub (λ_ H Q=>Q true H) te σ Q H:=by
 intro D nD
 refine eT (lo:=0) (n:=n) (sub:=sub) (tt:=λ_ H Q=>Q true H) (te:=te) (Q:=Q) (σ:=σ) (λi ys H2=>ys=(List.range i).map f/\H2=upd H D (.lst ys)) ⟨rfl,rfl⟩ (λi ys H2 hi hh=>?_) λys H2 hh=>?_
 ·obtain⟨rfl,rfl⟩:=hh
  refine bB (hte i _ _ hi (laid nD).1 ⟨aj,by rw [List.length_map,List.length_range];exact bj ‹1›,by rw [List.range_succ,List.map_append];rfl,bv⟩)
 ·obtain⟨rfl,rfl⟩:=hh
  exact hq D nD
noncomputable def sgE (bs:List Int) (at_:Int) (k j:Nat):Int:=bs.getD j 0+3 * (k:Int) * (if (j:Int)=at_ then 1 else 0)
noncomputable def gZ (z:Int):Str:=⟨#[97+(z % 26).toNat]⟩
noncomputable def nmK (bs:List Int) (at_ sz:Int) (k:Nat):Str:=Txt.join ‹""› (((List.range sz.toNat).map (sgE bs at_ k)).map gZ)
theorem wj (xs:List Int):xs.map gZ=(xs.map λz=>97+(z % 26).toNat).map λd=>(⟨#[d]⟩:Str):=by rw [List.map_map];rfl
theorem B4 (xs:List Int):((xs.map gZ).map (·.length)).sum=xs.length:=by rw [wj,iD,List.length_map]
theorem iY (bs:List Int) (at_ sz:Int) (k:Nat):(nmK bs at_ sz k).cps.toList=(List.range sz.toNat).map λj=>97+(sgE bs at_ k j % 26).toNat:=by
 unfold nmK
 rw [wj,BV,gS,List.map_map]
 rfl
theorem AJ {bs:List Int}{at_ sz:Int} (h1:1<=sz) (h8:sz<=8) (a0:0<=at_) (a1:at_ < sz):Nms ((List.range 8).map (nmK bs at_ sz)):=by
 refine⟨by rw [List.length_map,List.length_range],?_,λx hx=>?_⟩
 ·refine List.pairwise_map.mpr (List.Pairwise.imp_of_mem (λ{i j} hi hj hlt e=>?_) List.pairwise_lt_range)
  have hi:=List.mem_range.mp hi
  have hj:=List.mem_range.mp hj
  have e:=congrArg (λx:Str=>x.cps.toList[at_.toNat]?) e
  have ht:at_.toNat < sz.toNat:=by omega
  rw [iY,iY,List.getElem?_map,List.getElem?_map,List.getElem?_range ht]at e
  have e:97+(sgE bs at_ i at_.toNat % 26).toNat=97+(sgE bs at_ j at_.toNat % 26).toNat:=Option.some.inj e
  have z:((at_.toNat:Nat):Int)=at_:=by omega
  unfold sgE at e
  rw [if_pos z]at e
  generalize bs.getD at_.toNat 0=b at e
  omega
 ·obtain⟨k,_,rfl⟩:=List.mem_map.mp hx
  have hl:(nmK bs at_ sz k).length=sz.toNat:=by rw [cL,iY,List.length_map,List.length_range]
  refine yi ‹1› ‹1› λc hc=>?_
  rw [iY]at hc
  obtain⟨j,_,rfl⟩:=List.mem_map.mp hc
  have:=Int.emod_nonneg (sgE bs at_ k j) (show (26:Int)≠0 by decide)
  have:=Int.emod_lt_of_pos (sgE bs at_ k j) (show (0:Int) < 26 by decide)
  unfold yB
  omega
inductive NmI (H:Hp) (c:Int) (lw s D p:Addr) (at_ sz:Int) (bs:List Int) (k:Nat) (σ:St) (H2:Hp):Prop
 | mk (v7 v8:Option V) (h1:σ=[some (.int c),some (.ref lw),some (.ref s),some (.int at_),some (.int sz),some (.ref D),some (.ref p),v7,v8]) (h2:bh H H2) (h3:H2 D=some (.lst (bs.map V.int))) (h4:H2 p=some (.lst (((List.range k).map (nmK bs at_ sz)).map V.str))):NmI H c lw s D p at_ sz bs k σ H2
noncomputable def qH:Sp:=λvs H Q _=>∃(c:Int),vs=[.int c]/\∀(p:Addr) (ss:List Str) (H':Hp),H p=none->bh H H'->H' p=some (.lst (ss.map V.str))->Nms ss->Q (.ref p) H'
theorem cY:FnScope ["_law_cell_here", "_law_some_here", "_law_state", "_law_at", "_law_size", "_law_base", "_law_names_here", "_law_k", "_law_signs"] ["_law_cell_here"] (aq pG):=‹2›
theorem vy {f f1 f2:Addr}{fd:FuncData} (F:Fun K "_law_names" "_law_names" pG f fd) (N:Free mg){fd1:FuncData} (CB:Cal P w K mg base "_law_begun" 1 ["_law_cell_here"] lU f1 fd1){fd2:FuncData} (CP:Cal P w K mg base "_law_pull" 2 ["_law_state", "_law_many"] eE f2 fd2):FnOk P w K mg base CX0 3 f fd ["_law_cell_here"] qH:=by
 refine F.ok (k:=2) cY (λvs H Q E h=>?_) (λcdv A outer s H vs Q E hr h=>?_)
 ·obtain⟨c,rfl,_⟩:=h
  rfl
 ·obtain⟨c,rfl,q⟩:=h
  have hu:=aL hr
  refine⟨_,(@af _ _ _ _ _ (@aE (i:=1) _ _ _ _ _ _ cY.nd rfl (Or.inl rfl) (@aR _ _ _ _ (@aa _ _ _ _ _ aB (@aa _ _ _ _ _ aB (@aa _ _ _ _ _ aB (@aa _ _ _ _ _ aB (@aa _ _ _ _ _ aB (@aa _ _ _ _ _ aB (@aa _ _ _ _ _ aB (@aa _ _ _ _ _ aB (@aa _ _ _ _ _ aB (@aa _ _ _ _ _ aB (@aa _ _ _ _ _ aB (@aa _ _ _ _ _ aB ae rfl) rfl) rfl) rfl) rfl) rfl) rfl) rfl) rfl) rfl) rfl) rfl)) (by rfl) (by first | exact .inl rfl | exact .inr rfl))
   (af (aE (i:=2) cY.nd rfl (Or.inr rfl) (aw CB.ok (hr.mono (by decide)) rfl CB.nm CB.kp CB.bd .nil av (aa (pv 0) ae)))
   (af (bt (aK bK (aw CP.ok (hr.mono (by decide)) rfl CP.nm CP.kp CP.bd .nil av (aa (pv 2) (aa au ae))) au (aS _)) (af (aE (i:=3) cY.nd rfl (Or.inr rfl) (aw CP.ok (hr.mono (by decide)) rfl CP.nm CP.kp CP.bd .nil av (aa (pv 2) (aa au ae))))
   (ao (ay (dX iS (b8 vn (dX iS (pv 1) (fB (pv 3)) fE) (dX iS (pv 1) fE (fB (pv 3)))) fE (fB au))))) aI)
   (af (aE (i:=4) cY.nd rfl (Or.inl rfl) (b8 bV au (aw CP.ok (hr.mono (by decide)) rfl CP.nm CP.kp CP.bd .nil av (aa (pv 2) (aa au ae)))))
   (af (aE (i:=3) cY.nd rfl (Or.inr rfl) (aw CP.ok (hr.mono (by decide)) rfl CP.nm CP.kp CP.bd .nil av (aa (pv 2) (aa (pv 4) ae))))
   (af (aE (i:=5) cY.nd rfl (Or.inr rfl) (fR (bT rfl (dt rfl N.range (aa (pv 4) ae)) rfl rfl (by show ∀p∈_,iB [‹"_law_state"›] p;decide) (by decide) rfl (by show ([‹"_law_k"›, ‹"_law_state"›]:List Str).Nodup;decide) (.cons (i:=2) rfl (.inr (.inl rfl)) (by show (some NameKind.cell)≠some NameKind.local;decide) (.inl rfl) rfl .nil) (λC fp s H=>df) (λC fp s H=>(aw CP.ok (hr.mono (by decide)) rfl CP.nm CP.kp CP.bd .nil av (aa (pv 1) (aa au ae)))))))
   (af (aE (i:=6) cY.nd rfl (Or.inl rfl) (aR ae))
   (af (eJ PassesOwn.never rfl (dt rfl N.range (aa au ae)) (bC (i:=7) cY.nd rfl (Or.inr rfl))
   (af (xJ (i:=8) cY.nd rfl (Or.inl rfl) (bT rfl (dt rfl N.range (aa (pv 4) ae)) rfl rfl (by show ∀p∈_,iB [‹"_law_k"›, ‹"_law_base"›, ‹"_law_at"›] p;decide) (by decide) rfl (by show ([‹"_law_j"›, ‹"_law_k"›, ‹"_law_base"›, ‹"_law_at"›]:List Str).Nodup;decide) (.cons (i:=7) rfl (.inr (.inl rfl)) (by show (some NameKind.cell)≠some NameKind.local;decide) (.inl rfl) rfl (.cons (i:=5) rfl (.inr (.inl rfl)) (by show (some NameKind.cell)≠some NameKind.local;decide) (.inl rfl) rfl (.cons (i:=3) rfl (.inr (.inl rfl)) (by show (some NameKind.cell)≠some NameKind.local;decide) (.inl rfl) rfl .nil))) (λC fp s H=>df) (λC fp s H=>(b8 bV (bn (r:=Ao K) br (pv 2) (pv 0) (λ_ _=>rfl)) (b8 eL (b8 eL au (pv 1)) (aQ lB (by rfl) N.int PyProof.Rows.Boot.«int» (aa (ck bK (pv 0) (pv 3) (aS _)) ae)))))))
   (ao (aY (cK PySem.F.plainAttrs_list PySem.F.slot_list_append PySem.F.type_list_append du (pv 6) (aa (cK PySem.F.plainAttrs_str PySem.F.slot_str_join PySem.F.type_str_join gN aB (aa (fR (bT rfl (dg (pv 8)) rfl rfl (by show ∀p∈_,iB [] p;decide) (by decide) rfl (by show ([‹"_law_sign"›]:List Str).Nodup;decide) .nil (λC fp s H=>df) (λC fp s H=>(bn AU aB (b8 gk (pv 0) au) (λ_ _=>rfl))))) ae)) ae))))))
   (ao (ay (pv 6))))))))))),?_⟩
  refine ag (aC ⟨by show 12<=sizeLine;decide,λlw nlw=>?_⟩)
  obtain⟨g1,e1⟩:=laid (o:=.lst (w12.map V.str)) nlw
  walk_at "d"
  change xa _ _ _ _ (upd H lw (.lst (w12.map V.str)))
  generalize upd H lw (.lst (w12.map V.str))=H1 at g1 e1 ⊢
  refine ag (aC ⟨_,rfl,c,rfl,λs H2 ns g2 hs2=>?_⟩)
  walk_at "d"
  have ns0:H s=none:=by
   cases e:H s with
   | none=>rfl
   | some o=>rw [g1 _ _ e]at ns;cases ns
  have nlws:lw≠s:=ai e1 ns
  have g12:=g1.trans g2
  have e1:=g2 _ _ e1
  have og:∀{X Y:Hp},bh H X->Off s X Y->bh H Y:=λ{X Y} g o b u e=>o _ _ (g _ _ e) (ai e ns0)
  refine ag (aH ⟨_,rfl,s,4,rfl,hs2,by decide,by decide,λn H3 n0 n1 o3 hs3=>⟨rfl,_,rfl,dS (λ_=>?_) λ_=>aA ?_⟩⟩)
  ·refine ag (aC ⟨_,rfl,s,12,rfl,hs3,by decide,by decide,λat_ H4 a0 a1 o4 hs4=>?_⟩)
   walk_at "d"
   obtain⟨j,rfl⟩:∃j:Nat,at_=(j:Int):=⟨at_.toNat,by omega⟩
   have hj:j < 12:=by omega
   have e4:=o4 _ _ (o3 _ _ e1 nlws) nlws
   have g4:=og (og g12 o3) o4
   refine aD ⟨_,rfl,_,rfl,_,rfl,lw,_,rfl,SqL.of e4,λl1 nl1=>?_⟩
   obtain⟨g5,e5⟩:=laid (o:=.lst (dH (w12.map V.str) (some (j:Int)) none)) nl1
   generalize upd H4 l1 _=H5 at g5 e5 ⊢
   refine⟨_,rfl,_,rfl,_,rfl,lw,_,rfl,SqL.of (g5 _ _ e4),λl2 nl2=>?_⟩
   obtain⟨g6,e6⟩:=laid (o:=.lst (dH (w12.map V.str) none (some (j:Int)))) nl2
   generalize upd H5 l2 _=H6 at g6 e6 ⊢
   have c1:=dP (w12.map V.str) (some (j:Int)) none
   have c2:=dP (w12.map V.str) none (some (j:Int))
   have c3:(w12.map V.str).length=12:=rfl
   refine⟨l1,l2,_,_,rfl,rfl,g6 _ _ e5,e6,Nat.le_of_lt (bj ‹1›),λl3 nl3=>⟨_,rfl,l3,_,rfl,SqL.of aj,λp np=>?_⟩⟩
   obtain⟨g7,_⟩:=laid (o:=.lst (dH (w12.map V.str) (some (j:Int)) none++dH (w12.map V.str) none (some (j:Int)))) nl3
   obtain⟨g8,e8⟩:=laid (o:=.lst (dH (dH (w12.map V.str) (some (j:Int)) none++dH (w12.map V.str) none (some (j:Int))) none (some 8))) np
   have gg:=g4.trans (g5.trans (g6.trans (g7.trans g8)))
   refine q p (rot j) _ ?_ gg (by rw [e8,xC ⟨j,hj⟩]) (Ag ⟨j,hj⟩)
   cases e:H p with
   | none=>rfl
   | some o=>rw [(g4.trans (g5.trans (g6.trans g7))) _ _ e]at np;cases np
  ·dsimp only
   refine ag (aC ⟨_,rfl,s,8,rfl,hs3,by decide,by decide,λn2 H4 m0 m1 o4 hs4=>⟨_,_,rfl,rfl,?_⟩⟩)
   walk_at "d"
   refine ag (aC ⟨_,rfl,_,rfl,s,1+n2,rfl,hs4,by omega,by omega,λat_ H5 a0 a1 o5 hs5=>?_⟩)
   walk_at "d"
   have g5:=og (og (og g12 o3) o4) o5
   refine ag (aC (de ⟨_,rfl,_,rfl,by omega,by omega,wE (n:=(1+n2).toNat) hs5 ‹1› (λx=>0<=x/\x < 26) (λi H6 R hi hs6 hR=>?_) λD bs H6 nD o6 hs6 eD hbl hbs=>?_⟩))
   ·exact⟨_,rfl,s,26,rfl,hs6,by decide,by decide,λx H7 x0 x1 o7 hs7=>hR x H7 ⟨x0,x1⟩ o7 hs7⟩
   ·walk_at "d"
    have g6:=og g5 o6
    refine ag (aC ⟨by show 0<=sizeLine;decide,λp np=>?_⟩)
    walk_at "d"
    obtain⟨g7,e7⟩:=laid (o:=.lst []) np
    have np0:H p=none:=by
     cases e:H p with
     | none=>rfl
     | some o=>rw [g6 _ _ e]at np;cases np
    have eD7:=g7 _ _ eD
    have npD:p≠D:=λz=>by rw [z,eD]at np;cases np
    have g67:=g6.trans g7
    generalize upd H6 p _=H7 at g7 e7 eD7 g67 ⊢
    have hsz:((1+n2).toNat:Int)=1+n2:=by omega
    refine ag ⟨8,rfl,by decide,by decide,eg (n:=8) (NmI H c lw s D p at_ (1+n2) bs) ⟨none,none,rfl,g67,eD7,e7⟩ (λk σ H8 hk hh=>?_) λσ H8 hh=>?_⟩
    ·obtain⟨v7,v8,rfl,g8,eD8,ep8⟩:=hh
     walk_at "d"
     rw [Int.zero_add]
     refine ag (aC (de ⟨_,rfl,_,rfl,by omega,by omega,wF (n:=(1+n2).toNat) (λj=>V.int (sgE bs at_ k j)) ‹1› (λj H9 R hj g9 hR=>?_) λD2 nD2=>?_⟩))
     ·rw [Int.zero_add]
      have hjb:j < bs.length:=by omega
      refine⟨_,rfl,_,rfl,D,_,_,.int bs[j],rfl,rfl,SqL.of (g9 _ _ eD8),fM (by rw [List.getElem?_map,List.getElem?_eq_getElem hjb];rfl),_,rfl,_,_,rfl,rfl,.inl ⟨by decide,by decide⟩,_,rfl,_,rfl,rfl,.inr ⟨_,rfl,_,_,rfl,rfl,.inl ⟨by omega,by omega⟩,_,_,rfl,rfl,?_⟩⟩
      have e9:bs[j]+3 * (k:Int) * (if decide (V.int (j:Int)=V.int at_)=true then 1 else 0)=sgE bs at_ k j:=by
       unfold sgE
       rw [List.getD_eq_getElem?_getD,List.getElem?_eq_getElem hjb]
       by_cases z:(j:Int)=at_
       ·rw [if_pos z,if_pos (decide_eq_true (congrArg V.int z))];rfl
       ·rw [if_neg z,if_neg (λy=>z (V.int.inj (of_decide_eq_true y)))];rfl
      rw [e9]
      exact hR
     ·rw [show ((List.range (1+n2).toNat).map λj=>V.int (sgE bs at_ k j))=((List.range (1+n2).toNat).map (sgE bs at_ k)).map V.int from by rw [List.map_map];rfl]
      obtain⟨g9,e9⟩:=laid (o:=.lst (((List.range (1+n2).toNat).map (sgE bs at_ k)).map V.int)) nD2
      walk_at "d"
      generalize upd H8 D2 _=H9 at g9 e9 ⊢
      have hzl:((List.range (1+n2).toNat).map (sgE bs at_ k)).length < 1000:=by rw [List.length_map,List.length_range];omega
      refine aX (yZ ⟨_,rfl,.inl ⟨rfl,_,SqL.of (g9 _ _ ep8)⟩,eF (yZ ⟨rfl,eF (de ⟨_,rfl,D2,rfl,⟨_,SqL.of e9⟩,wC gZ hzl e9 (λz H2 R hR=>?_) λD3 nD3=>?_⟩)⟩)⟩)
      ·exact⟨_,rfl,_,_,rfl,rfl,(by show (0:Int) < 26;decide),dk,z % 26,_,rfl,rfl,by decide,AO (Int.emod_nonneg _ (by decide)) (Int.emod_lt_of_pos _ (by decide)),hR⟩
      ·obtain⟨ga,ea⟩:=laid (o:=.lst ((((List.range (1+n2).toNat).map (sgE bs at_ k)).map gZ).map V.str)) nD3
       generalize upd H9 D3 _=Ha at ga ea ⊢
       have epa:=ga _ _ (g9 _ _ ep8)
       have eDa:=ga _ _ (g9 _ _ eD8)
       refine⟨‹""›, D3,_,rfl,rfl,ea,?_,p,_,_,rfl,rfl,epa,?_,_,_,rfl,λb o e=>?_,?_,?_⟩
       ·rw [B4,show ‹""›.length=0 from rfl,Nat.mul_zero];exact Nat.le_trans (Nat.le_of_lt hzl) (by decide)
       ·rw [List.length_map,List.length_map,List.length_range];exact bj ‹1›
       ·rw [ah (ai e np0)];exact ga _ _ (g9 _ _ (g8 _ _ e))
       ·rw [ah (Ne.symm npD)];exact eDa
       ·rw [aj,List.range_succ,List.map_append,List.map_append];rfl
    ·obtain⟨v7,v8,rfl,g8,eD8,ep8⟩:=hh
     dsimp only
     exact aD ⟨_,rfl,q p _ _ np0 g8 ep8 (AJ ‹1› ‹1› a0 a1)⟩
open PySem.W PySem.W.KIN PySem.NumText
noncomputable def jk (K:PySem.W.Frag):Sp:=λvs H Q _=>∃v:V,vs=[v]/\((∃x:Str,v=.str x/\x.length < sizeLine/\∀H',bh H H'->Q (.bl (cJ x dk 8)) H')\/∃n:String,TyOf K H v (.type n)/\PySem.W.kitOne K (.type n) (.type "str")=some false/\Q (.bl false) H)
theorem zX:FnScope ["thing"] ["thing"] (aq uC):=‹2›
theorem xU {f f1:Addr}{fd fd1:FuncData} (F:Fun K "is_name" "is_name" uC f fd) (N:Free mg) (C:Con mg) (CH:Cal P w K mg base "has_only" 1 ["text", "signs", "most"] ua f1 fd1):FnOk P w K mg base CX0 2 f fd ["thing"] (jk K):=by
 obtain⟨t1,c1⟩:=C.letters
 obtain⟨t2,c2⟩:=C.eight
 refine F.ok (k:=1) zX (λvs H Q E h=>?_) (λcdv A outer s H vs Q E hr h=>?_)
 ·obtain⟨v,rfl,_⟩:=h
  rfl
 ·obtain⟨v,rfl,h⟩:=h
  refine⟨_,ao (ay (fj (aG cH (by rfl) N.isinstance PyProof.Rows.Boot.«isinstance» (az (pv 0) (az (fF (v:=.ty "str") (by rfl) N.str PyProof.Rows.Boot.«str» rfl) ae))) (fi (aw CH.ok hr rfl CH.nm CH.kp CH.bd .nil av (az (pv 0) (az (bI (v:=.str dk) (by rfl) c1 ⟨_,rfl⟩) (az (bI (v:=.int 8) (by rfl) c2 ⟨_,rfl⟩) ae))))))),?_⟩
  rcases h with⟨x,rfl,hl,hq⟩ | ⟨n,ty,e,q⟩
  ·exact⟨_,rfl,.str x,"str", _,true,rfl,.str x,by rfl,_,rfl,bB ⟨_,rfl,x,dk,8,rfl,hl,hq⟩⟩
  ·exact⟨_,rfl,v,"str", _,false,rfl,ty,e,_,rfl,aZ q⟩
noncomputable def jI (x:Str):Bool:=decide (x.cps.toList.head?=some 45)
noncomputable def figs (x:Str):List Nat:=if jI x=true then x.cps.toList.tail else x.cps.toList
noncomputable def bU (x:Str):Int:=if jI x=true then -((digitsVal (figs x):Nat):Int) else ((digitsVal (figs x):Nat):Int)
theorem rG:∀{cs:List Nat},AllDigits cs->(cs.map Char.ofNat).map Char.toNat=cs
 | [],_=>rfl
 | c::r,h=>by
  rw [List.map_cons,List.map_cons,rG h.tail]
  have hc:=h.head
  have:∀d:Nat,48<=d->d<=57->(Char.ofNat d).toNat=d:=by
   intro d h1 h2
   have:d=48\/d=49\/d=50\/d=51\/d=52\/d=53\/d=54\/d=55\/d=56\/d=57:=by omega
   rcases this with h | h | h | h | h | h | h | h | h | h <;> subst h <;> rfl
  rw [this c hc.1 hc.2]
noncomputable def dU (cs:List Nat):List Nat:=(Nat.toDigits 10 (digitsVal cs)).map Char.toNat
theorem fc {c:Nat}{r:List Nat} (h:AllDigits (c::r)) (hc:c≠48):dU (c::r)=c::r:=by
 unfold dU
 have hh:=h.head
 rw [toDigits_digitsVal r.length (c::r) rfl h (.inr ⟨c,r,rfl,by omega⟩)]
 exact rG h
theorem ph:dU [48]=[48]:=by decide
theorem iE:∀{r:List Nat},AllDigits r->(dU r).length<=r.length+(if r=[] then 1 else 0)
 | [],_=>by decide
 | c::r,h=>by
  by_cases hc:c=48
  ·subst hc
   have e:dU (48::r)=dU r:=by unfold dU;rw [digitsVal_zero]
   rw [e]
   have:=iE h.tail
   by_cases hr:r=[]
   ·subst hr;decide
   ·rw [if_neg hr]at this
    rw [if_neg (by simp),List.length_cons]
    omega
  ·rw [fc h hc,if_neg (by simp)]
   exact Nat.le_refl _
theorem kR {r:List Nat} (h:AllDigits (48::r)) (hr:r≠[]):dU (48::r)≠48::r:=λz=>by
 have e:dU (48::r)=dU r:=by unfold dU;rw [digitsVal_zero]
 rw [e]at z
 have:=iE h.tail
 rw [z,if_neg hr,List.length_cons]at this
 omega
theorem fw (m:Nat):(Str.ofString (toString ((m:Nat):Int))).cps.toList=(Nat.toDigits 10 m).map Char.toNat:=signs_num m
theorem gb (m:Nat) (h:0 < m):(Str.ofString (toString (-((m:Nat):Int)))).cps.toList=45::(Nat.toDigits 10 m).map Char.toNat:=by
 obtain⟨k,rfl⟩:∃k,m=k+1:=⟨m - 1,by omega⟩
 rw [PyProof.Rows.signs_ofString]
 show (toString (Int.negSucc k)).toList.map Char.toNat=_
 show ("-"++Nat.repr (k+1)).toList.map Char.toNat=_
 rw [String.toList_append,List.map_append,Nat.toList_repr]
 rfl
theorem kW {x:Str} (h:AllDigits (figs x)) (h1:figs x≠[]):Str.ofString (toString (bU x))=x↔¬((figs x).head?=some 48/\x.cps.toList≠[48]):=by
 cases hn:jI x with
 | false=>
  have ef:figs x=x.cps.toList:=by unfold figs;rw [hn];rfl
  have ev:bU x=((digitsVal (figs x):Nat):Int):=by unfold bU;rw [hn];rfl
  have e:Str.ofString (toString (bU x))=x↔dU (figs x)=figs x:=by
   rw [ev]
   constructor
   ·intro z
    have:=congrArg (λy:Str=>y.cps.toList) z
    simp only [fw]at this
    rw [<- ef]at this
    exact this
   ·intro z
    refine dc ?_
    rw [fw,<- ef]
    exact z
  rw [e]
  rw [<- ef]
  generalize figs x=cs at *
  cases cs with
  | nil=>exact absurd rfl h1
  | cons c r=>
   by_cases hc:c=48
   ·subst hc
    by_cases hr:r=[]
    ·subst hr
     exact⟨λ_ z=>z.2 rfl,λ_=>ph⟩
    ·refine⟨λz=>absurd z (kR h hr),λz=>absurd ⟨rfl,λw=>hr ?_⟩ z⟩
     injection w
   ·refine⟨λ_ z=>hc ?_,λ_=>fc h hc⟩
    injection z.1
 | true=>
  have hh:x.cps.toList.head?=some 45:=of_decide_eq_true hn
  have ef:figs x=x.cps.toList.tail:=by unfold figs;rw [hn];rfl
  have ev:bU x = -((digitsVal (figs x):Nat):Int):=by unfold bU;rw [hn];rfl
  have ex:x.cps.toList=45::figs x:=by
   rw [ef]
   cases q:x.cps.toList with
   | nil=>rw [q]at hh;cases hh
   | cons a t=>rw [q]at hh;cases hh;rfl
  have r2:x.cps.toList≠[48]:=by rw [ex];intro z;injection z with z _;cases z
  have e:Str.ofString (toString (bU x))=x↔(0 < digitsVal (figs x)/\dU (figs x)=figs x):=by
   rw [ev]
   by_cases hm:0 < digitsVal (figs x)
   ·constructor
    ·intro z
     have:=congrArg (λy:Str=>y.cps.toList) z
     simp only [gb _ hm]at this
     rw [ex]at this
     injection this with _ this
     exact⟨hm,this⟩
    ·intro z
     refine dc ?_
     rw [gb _ hm,ex]
     exact congrArg (45::·) z.2
   ·have hz:digitsVal (figs x)=0:=by omega
    refine⟨λz=>?_,λz=>absurd z.1 hm⟩
    have:=congrArg (λy:Str=>y.cps.toList) z
    rw [hz]at this
    have t0:(Str.ofString (toString (-((0:Nat):Int)))).cps.toList=[48]:=by decide
    rw [t0,ex]at this
    injection this with this _
    cases this
  rw [e]
  generalize figs x=cs at *
  cases cs with
  | nil=>exact absurd rfl h1
  | cons c r=>
   by_cases hc:c=48
   ·subst hc
    refine⟨λz=>?_,λz=>absurd ⟨rfl,r2⟩ z⟩
    by_cases hr:r=[]
    ·subst hr;exact absurd z.1 (by decide)
    ·exact absurd z.2 (kR h hr)
   ·refine⟨λ_ z=>hc ?_,λ_=>⟨?_,fc h hc⟩⟩
    ·injection z.1
    ·have:=h.head
     exact digitsVal_pos ‹1›
theorem mY (x:Str) (c:Nat):Txt.startswith x ⟨#[c]⟩=decide (x.cps.toList.head?=some c):=by
 unfold Txt.startswith
 rw [Bool.eq_iff_iff,decide_eq_true_eq,List.head?_eq_getElem?]
 rw [Bool.and_eq_true,decide_eq_true_eq]
 exact StrLaws.subAt_one x c 0
theorem xh {x:Str} (h:1<=x.length):(Txt.slice x (some 1) none).cps.toList=x.cps.toList.tail:=by
 rw [PyProof.Rows.slice_from_eq (x:=x) (i:=1) (b:=x.length) (by decide) ‹1› rfl]
 have e:x.length=x.cps.toList.length:=by simp [Str.length]
 show (x.cps.toList.drop 1).take _=_
 rw [List.take_of_length_le (by rw [List.length_drop];omega),List.drop_one]
theorem lO (x:Str):Txt.startswith x ‹"-"›=jI x:=by
 rw [show ‹"-"› = ⟨#[45]⟩ from by decide]
 exact mY x 45
theorem fQ (x:Str):Txt.startswith x ‹"0"›=decide (x.cps.toList.head?=some 48):=by
 rw [show ‹"0"› = ⟨#[48]⟩ from by decide]
 exact mY x 48
noncomputable def qm (x:Str):Str:=⟨(figs x).toArray⟩
theorem oF {x:Str} (h:jI x=true):Txt.slice x (some 1) none=qm x:=by
 refine dc ?_
 have hl:1<=x.length:=by
  have z:=of_decide_eq_true h
  have e:x.length=x.cps.toList.length:=by simp [Str.length]
  cases q:x.cps.toList with
  | nil=>rw [q]at z;cases z
  | cons a t=>rw [e,q,List.length_cons];omega
 rw [xh hl]
 show _=figs x
 unfold figs
 rw [h];rfl
theorem wn {x:Str} (h:jI x=false):x=qm x:=by
 refine dc ?_
 show _=figs x
 unfold figs
 rw [h];rfl
noncomputable def fU (x:Str):Bool:=cJ (qm x) gU 12
theorem jS (x:Str):(qm x).length=(figs x).length:=by
 show (figs x).toArray.size=_
 rw [List.size_toArray]
theorem mJ {x:Str} (h:fU x=true):AllDigits (figs x)/\figs x≠[]/\(figs x).length<=12:=by
 unfold fU cJ at h
 rw [Bool.and_eq_true,Bool.and_eq_true]at h
 obtain⟨h1,h2,h3⟩:=h
 have h1:=of_decide_eq_true h1
 have h2:=of_decide_eq_true h2
 rw [jS]at h1 h2
 refine⟨λc hc=>?_,λz=>?_,by omega⟩
 ·have:=List.all_eq_true.mp h3 c hc
  have m:c∈gU.cps.toList:=of_decide_eq_true this
  rw [show gU.cps.toList=[48,49,50,51,52,53,54,55,56,57] from by decide]at m
  simp only [List.mem_cons,List.not_mem_nil,or_false]at m
  omega
 ·rw [z]at h1
  exact absurd h1 (by decide)
theorem fo {x:Str} (h:(figs x).length<=12):x.length<=640:=by
 have e:x.length=x.cps.toList.length:=by simp [Str.length]
 unfold figs at h
 split at h
 ·rw [List.length_tail]at h;omega
 ·omega
theorem mH {x:Str} (h:fU x=true):PySem.intText? x=some (bU x):=by
 obtain⟨d,n,l⟩:=mJ h
 have hl:=fo l
 cases q:jI x with
 | false=>
  have ef:figs x=x.cps.toList:=by unfold figs;rw [q];rfl
  have:=intText_digits (x:=x) (ef ▸ d) (ef ▸ n) ‹1›
  rw [this]
  unfold bU
  rw [q,ef];rfl
 | true=>
  have hh:x.cps.toList.head?=some 45:=of_decide_eq_true q
  have ef:figs x=x.cps.toList.tail:=by unfold figs;rw [q];rfl
  have ex:x.cps.toList=45::figs x:=by
   rw [ef]
   cases r:x.cps.toList with
   | nil=>rw [r]at hh;cases hh
   | cons a t=>rw [r]at hh;cases hh;rfl
  rw [intText_neg ex d n ‹1›]
  unfold bU
  rw [q];rfl
noncomputable def gL (x:Str) (lo hi:Int):V:=if (fU x=true/\Str.ofString (toString (bU x))=x)/\(lo<=bU x/\bU x<=hi) then .int (bU x) else .non
noncomputable def ni:Sp:=λvs H Q _=>∃(x:Str) (lo hi:Int),vs=[.str x,.int lo,.int hi]/\x.length < sizeLine/\∀H',bh H H'->Q (gL x lo hi) H'
theorem ju:FnScope ["text", "low", "high", "figures", "number"] ["text", "low", "high"] (aq m8):=‹2›
theorem sr {f f1:Addr}{fd fd1:FuncData} (F:Fun K "number_of" "number_of" m8 f fd) (N:Free mg) (C:Con mg) (CH:Cal P w K mg base "has_only" 1 ["text", "signs", "most"] ua f1 fd1):FnOk P w K mg base CX0 2 f fd ["text", "low", "high"] ni:=by
 obtain⟨t1,c1⟩:=C.figures
 obtain⟨t2,c2⟩:=C.twelve
 refine F.ok (k:=1) ju (λvs H Q E h=>?_) (λcdv A outer s H vs Q E hr h=>?_)
 ·obtain⟨x,lo,hi,rfl,_⟩:=h
  rfl
 ·obtain⟨x,lo,hi,rfl,hl,hq⟩:=h
  refine⟨_,af (aE (i:=3) ju.nd rfl (Or.inl rfl) (jB (eG (cK PySem.F.plainAttrs_str PySem.F.slot_str_startswith PySem.F.type_str_startswith mt_startswith (pv 0) (az aB ae))) (dX zT (pv 0) (fB au) fE) (pv 0)))
   (af (bt (gh (eG (aw CH.ok hr rfl CH.nm CH.kp CH.bd .nil av (az (pv 3) (az (bI (v:=.str gU) (by rfl) c1 ⟨_,rfl⟩) (az (bI (v:=.int 12) (by rfl) c2 ⟨_,rfl⟩) ae)))))) (ao (ay gi)) aI)
   (af (bt (PW.pt (Aq (eG (cK PySem.F.plainAttrs_str PySem.F.slot_str_startswith PySem.F.type_str_startswith mt_startswith (pv 3) (az aB ae))) (xH (aK BO (pv 0) aB (aS _))))) (ao (ay gi)) aI)
   (af (aE (i:=4) ju.nd rfl (Or.inl rfl) (aQ kE (by rfl) N.int PyProof.Rows.Boot.«int» (az (pv 0) ae)))
   (ao (ay (jB (nI kX kX (pv 1) (pv 4) (pv 2)) (pv 4) gi)))))),?_⟩
  have hfl:(qm x).length < sizeLine:=by
   refine Nat.lt_of_le_of_lt ?_ hl
   rw [jS]
   have e:x.length=x.cps.toList.length:=by simp [Str.length]
   unfold figs
   split
   ·rw [List.length_tail];omega
   ·omega
  refine⟨_,rfl,rfl,x,_,rfl,rfl,_,rfl,?_⟩
  rw [lO]
  refine dS (λh1=>⟨_,rfl,_,rfl,x,rfl,Nat.le_of_lt hl,?_⟩) λh1=>⟨_,rfl,?_⟩
  ·have e:(Txt.slice x (some 1) none)=qm x:=oF h1
   have eb:cJ (Txt.slice x (some 1) none) gU 12=fU x:=congrArg (λz=>cJ z gU 12) e
   have eh:(Txt.slice x (some 1) none).cps.toList.head?=(figs x).head?:=congrArg (λz:Str=>z.cps.toList.head?) e
   refine⟨_,rfl,(Txt.slice x (some 1) none),gU,12,rfl,(by rw [oF h1];exact hfl),λH1 g1=>⟨_,rfl,?_⟩⟩
   have hq:=hq H1 g1
   rw [eb]
   cases hg:fU x with
   | false=>
    refine bB ?_
    have:gL x lo hi=.non:=if_neg λz=>by rw [hg]at z;cases z.1.1
    rw [this]at hq
    exact hq
   | true=>
    refine aZ ?_
    obtain⟨gd,gn,gl⟩:=mJ hg
    have pi:=kW gd gn
    have no:¬Str.ofString (toString (bU x))=x->Q .non H1:=λz=>by
     have:gL x lo hi=.non:=if_neg λy=>z y.1.2
     rw [this]at hq
     exact hq
    have yes:Str.ofString (toString (bU x))=x->∀b:Bool,(b=true↔(lo<=bU x/\bU x<=hi))->Q (if b=true then .int (bU x) else .non) H1:=λz b hb=>by
     have:gL x lo hi=if b=true then .int (bU x) else .non:=by
      unfold gL
      cases b with
      | true=>rw [if_pos ⟨⟨hg,z⟩,hb.mp rfl⟩];rfl
      | false=>rw [if_neg λy=>by have:=hb.mpr y.2;cases this];rfl
     rw [this]at hq
     exact hq
    refine⟨_,rfl,rfl,(Txt.slice x (some 1) none),_,rfl,rfl,_,rfl,?_⟩
    rw [fQ,eh]
    have z0:x=‹"0"›↔x.cps.toList=[48]:=⟨λz=>by rw [z];decide,λz=>dc (z.trans (by decide))⟩
    refine dS (λh2=>⟨_,rfl,rfl,_,rfl,dS (λh3=>?_) λh3=>?_⟩) λh2=>aZ ?_
    ·refine no λz=>pi.mp z ⟨of_decide_eq_true h2,λw=>?_⟩
     rw [z0.mpr w]at h3
     exact absurd h3 (by decide)
    ·have hp:Str.ofString (toString (bU x))=x:=pi.mpr λz=>h3 (by
      rw [Bool.not_eq_true',decide_eq_false_iff_not]
      intro w
      injection w with w
      exact z.2 (z0.mp w))
     have yes:=yes hp
     refine⟨_,rfl,x,bU x,rfl,mH hg,fo gl,?_⟩
     refine⟨_,rfl,_,rfl,_,_,rfl,rfl,_,rfl,dS (λh4=>⟨_,rfl,_,_,rfl,rfl,_,rfl,dS (λh5=>⟨_,rfl,?_⟩) λh5=>?_⟩) λh4=>⟨_,rfl,aZ ?_⟩⟩
     ·exact yes true ⟨λ_=>⟨of_decide_eq_true h4,of_decide_eq_true h5⟩,λ_=>rfl⟩
     ·exact yes false ⟨(λz=>by cases z),λz=>absurd (decide_eq_true z.2) h5⟩
     ·exact yes false ⟨(λz=>by cases z),λz=>absurd (decide_eq_true z.1) h4⟩
    ·have hp:Str.ofString (toString (bU x))=x:=pi.mpr λz=>h2 (decide_eq_true z.1)
     have yes:=yes hp
     refine⟨_,rfl,x,bU x,rfl,mH hg,fo gl,?_⟩
     refine⟨_,rfl,_,rfl,_,_,rfl,rfl,_,rfl,dS (λh4=>⟨_,rfl,_,_,rfl,rfl,_,rfl,dS (λh5=>⟨_,rfl,?_⟩) λh5=>?_⟩) λh4=>⟨_,rfl,aZ ?_⟩⟩
     ·exact yes true ⟨λ_=>⟨of_decide_eq_true h4,of_decide_eq_true h5⟩,λ_=>rfl⟩
     ·exact yes false ⟨(λz=>by cases z),λz=>absurd (decide_eq_true z.2) h5⟩
     ·exact yes false ⟨(λz=>by cases z),λz=>absurd (decide_eq_true z.1) h4⟩
  ·have e:x=qm x:=wn (Bool.eq_false_iff.mpr h1)
   have eb:cJ x gU 12=fU x:=congrArg (λz=>cJ z gU 12) e
   have eh:x.cps.toList.head?=(figs x).head?:=congrArg (λz:Str=>z.cps.toList.head?) e
   refine⟨_,rfl,x,gU,12,rfl,hl,λH1 g1=>⟨_,rfl,?_⟩⟩
   have hq:=hq H1 g1
   rw [eb]
   cases hg:fU x with
   | false=>
    refine bB ?_
    have:gL x lo hi=.non:=if_neg λz=>by rw [hg]at z;cases z.1.1
    rw [this]at hq
    exact hq
   | true=>
    refine aZ ?_
    obtain⟨gd,gn,gl⟩:=mJ hg
    have pi:=kW gd gn
    have no:¬Str.ofString (toString (bU x))=x->Q .non H1:=λz=>by
     have:gL x lo hi=.non:=if_neg λy=>z y.1.2
     rw [this]at hq
     exact hq
    have yes:Str.ofString (toString (bU x))=x->∀b:Bool,(b=true↔(lo<=bU x/\bU x<=hi))->Q (if b=true then .int (bU x) else .non) H1:=λz b hb=>by
     have:gL x lo hi=if b=true then .int (bU x) else .non:=by
      unfold gL
      cases b with
      | true=>rw [if_pos ⟨⟨hg,z⟩,hb.mp rfl⟩];rfl
      | false=>rw [if_neg λy=>by have:=hb.mpr y.2;cases this];rfl
     rw [this]at hq
     exact hq
    refine⟨_,rfl,rfl,x,_,rfl,rfl,_,rfl,?_⟩
    rw [fQ,eh]
    have z0:x=‹"0"›↔x.cps.toList=[48]:=⟨λz=>by rw [z];decide,λz=>dc (z.trans (by decide))⟩
    refine dS (λh2=>⟨_,rfl,rfl,_,rfl,dS (λh3=>?_) λh3=>?_⟩) λh2=>aZ ?_
    ·refine no λz=>pi.mp z ⟨of_decide_eq_true h2,λw=>?_⟩
     rw [z0.mpr w]at h3
     exact absurd h3 (by decide)
    ·have hp:Str.ofString (toString (bU x))=x:=pi.mpr λz=>h3 (by
      rw [Bool.not_eq_true',decide_eq_false_iff_not]
      intro w
      injection w with w
      exact z.2 (z0.mp w))
     have yes:=yes hp
     refine⟨_,rfl,x,bU x,rfl,mH hg,fo gl,?_⟩
     refine⟨_,rfl,_,rfl,_,_,rfl,rfl,_,rfl,dS (λh4=>⟨_,rfl,_,_,rfl,rfl,_,rfl,dS (λh5=>⟨_,rfl,?_⟩) λh5=>?_⟩) λh4=>⟨_,rfl,aZ ?_⟩⟩
     ·exact yes true ⟨λ_=>⟨of_decide_eq_true h4,of_decide_eq_true h5⟩,λ_=>rfl⟩
     ·exact yes false ⟨(λz=>by cases z),λz=>absurd (decide_eq_true z.2) h5⟩
     ·exact yes false ⟨(λz=>by cases z),λz=>absurd (decide_eq_true z.1) h4⟩
    ·have hp:Str.ofString (toString (bU x))=x:=pi.mpr λz=>h2 (decide_eq_true z.1)
     have yes:=yes hp
     refine⟨_,rfl,x,bU x,rfl,mH hg,fo gl,?_⟩
     refine⟨_,rfl,_,rfl,_,_,rfl,rfl,_,rfl,dS (λh4=>⟨_,rfl,_,_,rfl,rfl,_,rfl,dS (λh5=>⟨_,rfl,?_⟩) λh5=>?_⟩) λh4=>⟨_,rfl,aZ ?_⟩⟩
     ·exact yes true ⟨λ_=>⟨of_decide_eq_true h4,of_decide_eq_true h5⟩,λ_=>rfl⟩
     ·exact yes false ⟨(λz=>by cases z),λz=>absurd (decide_eq_true z.2) h5⟩
     ·exact yes false ⟨(λz=>by cases z),λz=>absurd (decide_eq_true z.1) h4⟩
noncomputable def kQ:Sp:=λvs H Q _=>∃(a:Addr) (ks:List Str),vs=[.ref a]/\H a=some (.lst (ks.map V.str))/\1<=ks.length/\ks.length<=8/\ks.Nodup/\(∀k∈ks,cJ k dk 8=true/\k.length < sizeLine)/\∀H',bh H H'->Q (.bl true) H'
theorem mX {K:W.Frag}{E:XK}{σ:St}{H:Hp}{Q:VK}{a:Addr}{ks:List Str} (e0:σ[0]?=some (some (.ref a))) (ha:H a=some (.lst (ks.map V.str))) (hk:∀k∈ks,cJ k dk 8=true/\k.length < sizeLine) (hl:ks.length<=8)
  (hq:∀(D:Addr) (H':Hp),H D=none->bh H H'->H' D=some (.lst ((List.replicate ks.length true).map V.bl))->Q (.ref D) H') :
  kM (zm K (jf 0)) [] (λ_ H Q=>Q true H) (jg (jk K) [] E (cF (jf 0) i0)) σ H Q:=by
 refine⟨_,e0,a,rfl,⟨_,SqL.of ha⟩,λD nD=>eA (K:=K) (a:=a) (xs:=ks.map V.str) (sub:=[]) (tt:=λ_ H Q=>Q true H) (te:=jg (jk K) [] E (cF (jf 0) i0)) (Q:=Q) (σ:=σ)
  (λi ys H2=>ys=(List.replicate i true).map V.bl/\bh H H2/\H2 D=some (.lst ys)) ⟨rfl,bh.new nD,aj⟩ (λi ys H2 _ hh=>?_) (λi x ys H2 hi hh=>?_) λys H2 hh=>?_⟩
 ·exact SqL.of (hh.2.1 _ _ ha)
 ·obtain⟨rfl,g,hD⟩:=hh
  rw [List.getElem?_map]at hi
  cases ek:ks[i]? with
  | none=>rw [ek]at hi;cases hi
  | some k=>
   rw [ek]at hi
   cases hi
   have hil:=(List.getElem?_eq_some_iff.mp ek).1
   obtain⟨k1,k2⟩:=hk k (List.mem_of_getElem? ek)
   refine bB ⟨_,rfl,.str k,rfl,.inl ⟨k,rfl,k2,λH3 g3=>⟨g3 _ _ hD,?_,?_,?_,?_⟩⟩⟩
   ·rw [List.length_map,List.length_replicate]
    exact bj ‹1›
   ·rw [k1,List.replicate_succ',List.map_append];rfl
   ·intro b o e
    rw [ah (ai e nD)]
    exact g3 _ _ (g _ _ e)
   ·exact aj
 ·obtain⟨rfl,g,hD⟩:=hh
  rw [List.length_map]at hD
  exact hq D H2 nD g hD
theorem rX:FnScope ["thing"] ["thing"] (aq jw):=‹2›
theorem pW {f f1:Addr}{fd:FuncData} (F:Fun K "are_keys" "are_keys" jw f fd) (N:Free mg) (C:Con mg){fd1:FuncData} (CN:Cal P w K mg base "is_name" 2 ["thing"] (jk K) f1 fd1):FnOk P w K mg base CX0 3 f fd ["thing"] kQ:=by
 obtain⟨t1,c1⟩:=C.keys
 refine F.ok (k:=2) rX (λvs H Q E h=>?_) (λcdv A outer s H vs Q E hr h=>?_)
 ·obtain⟨a,ks,rfl,_⟩:=h
  rfl
 ·obtain⟨a,ks,rfl,ha,k1,k8,nd,hk,hq⟩:=h
  have hu:=aL hr
  refine⟨_,(af (bt (PW.pt (zc (gh (eG (aG cH (by rfl) N.isinstance PyProof.Rows.Boot.«isinstance» (az (pv 0) (az (fF (v:=.ty "list") (by rfl) N.list PyProof.Rows.Boot.«list» rfl) ae))))) (uX (gh (nI kX kX au (aG aO (by rfl) N.len PySem.boot_len (az (pv 0) ae)) (bI (v:=.int 8) (by rfl) c1 ⟨_,rfl⟩)))))) (ao (ay qU)) aI)
   (ao (ay (fj (aG (lC rfl) (by rfl) N.all PyProof.Rows.Boot.«all» (az (fR (bT rfl (dg (pv 0)) rfl rfl (by show ∀p∈_,iB [] p;decide) (by decide) rfl (by show ([‹"key"›]:List Str).Nodup;decide) .nil (λC fp s H=>df) (λC fp s H=>(aw CN.ok (hr.mono (by decide)) rfl CN.nm CN.kp CN.bd .nil av (az (pv 0) ae))))) ae)) (fi (ck bK (aG sV (by rfl) N.len PySem.boot_len (az (aQ (sS rfl) (by rfl) N.set PyProof.Rows.Boot.«set» (az (pv 0) ae)) ae)) (aG aO (by rfl) N.len PySem.boot_len (az (pv 0) ae)) (aS _))))))),?_⟩
  have hS:SqL K H a (ks.map V.str):=SqL.of ha
  refine⟨_,rfl,.ref a,"list", _,true,rfl,.lst ha,by rfl,_,rfl,aZ ?_⟩
  refine⟨_,rfl,a,_,rfl,.inl hS,_,_,rfl,rfl,_,rfl,?_⟩
  rw [List.length_map,decide_eq_true (show (1:Int)<=ks.length by omega)]
  refine bB ⟨_,_,rfl,rfl,_,rfl,?_⟩
  rw [decide_eq_true (show (ks.length:Int)<=8 by omega)]
  refine aZ ?_
  refine aA ?_
  dsimp only
  refine aD (xF (yY (eF ?_)))
  refine mX rfl ha hk k8 ?_
  intro D H' nD g hD
  refine⟨D,_,rfl,SqL.of hD,_,rfl,?_⟩
  rw [show (List.replicate ks.length true).all id=true from by simp]
  refine bB ?_
  refine⟨_,rfl,a,ks,rfl,SqL.of (g _ _ ha),by omega,λp np=>?_⟩
  refine⟨p,ks,rfl,aj,_,rfl,a,_,rfl,.inl (SqL.of (by rw [ah (ai (g _ _ ha) np)];exact g _ _ ha)),rfl,?_⟩
  rw [List.length_map,ly nd _ (Nat.le_refl _),decide_eq_true rfl]
  exact hq _ (g.trans (bh.new np))
noncomputable def aN (ks:List Str):List Str:=ks.foldl (λacc k=>if k∈acc then acc else acc++[k]) []
theorem dY (ks:List Str) (k:Str):aN (ks++[k])=if k∈aN ks then aN ks else aN ks++[k]:=by
 unfold aN
 rw [List.foldl_append]
 rfl
theorem dZ:∀(n:Nat) (ks:List Str),ks.length=n->(aN ks).length<=n
 | 0,ks,h=>by rw [List.length_eq_zero_iff.mp h];exact Nat.le_refl _
 | n+1,ks,h=>by
  obtain⟨xs,x,rfl⟩:∃xs x,ks=xs++[x]:=⟨ks.dropLast,ks.getLast (by intro z;rw [z]at h;cases h),(List.dropLast_concat_getLast _).symm⟩
  rw [List.length_append,List.length_singleton]at h
  have ih:=dZ n xs ‹1›
  rw [dY]
  split
  ·omega
  ·rw [List.length_append,List.length_singleton];omega
theorem bP (k:Str) (xs:List Str):inV (.str k) (xs.map V.str)=decide (k∈xs):=by
 unfold inV
 rw [List.any_map,Bool.eq_iff_iff,List.any_eq_true,decide_eq_true_iff]
 constructor
 ·rintro⟨y,hy,e⟩
  have e:(y == k)=true:=e
  rw [<- eq_of_beq e];exact hy
 ·intro h
  exact⟨k,h,beq_self_eq_true k⟩
noncomputable def tW (K:PySem.W.Frag):Sp:=λvs H Q _=>∃(a:Addr) (ks:List Str),vs=[.ref a]/\SqL K H a (ks.map V.str)/\ks.length<=900/\∀p,H p=none->Q (.ref p) (upd H p (.lst ((aN ks).map V.str)))
theorem tS {K:W.Frag}{H:Hp}{a p:Addr}{xs:List V}{o:HO} (h:SqL K H a xs) (np:H p=none):SqL K (upd H p o) a xs:=by
 rcases h with(e | ⟨u,e⟩) | e
 ·exact .inl (.inl (by rw [ah (ai e np)];exact e))
 ·exact .inl (.inr ⟨u,by rw [ah (ai e np)];exact e⟩)
 ·exact .inr e
theorem pp:FnScope ["keys", "once", "key"] ["keys"] (aq uy):=‹2›
theorem xS {f:Addr}{fd:FuncData} (F:Fun K "each_once" "each_once" uy f fd)  : FnOk P w K mg base CX0 1 f fd ["keys"] (tW K):=by
 refine F.ok (k:=0) pp (λvs H Q E h=>?_) (λcdv A outer s H vs Q E hr h=>?_)
 ·obtain⟨a,ks,rfl,_⟩:=h
  rfl
 ·obtain⟨a,ks,rfl,ha,hl,q⟩:=h
  have hu:=aL hr
  refine⟨_,(af (aE (i:=1) pp.nd rfl (Or.inl rfl) (aR ae))
   (af (eJ PassesOwn.never rfl (dg (pv 0)) (bC (i:=2) pp.nd rfl (Or.inl rfl))
   (ao (bt (aK mq (pv 2) (pv 1) (by with_unfolding_all rfl)) (ao (aY (cK PySem.F.plainAttrs_list PySem.F.slot_list_append PySem.F.type_list_append du (pv 1) (aa (pv 2) ae)))) aI)))
   (ao (ay (pv 1))))),?_⟩
  refine ag (aC ⟨by show 0<=sizeLine;decide,λp np=>?_⟩)
  walk_at "d"
  refine ag ⟨_,rfl,a,rfl,⟨_,tS ha np⟩,gR (K:=K) (a:=a) (xs:=ks.map V.str) (λi σ H2=>H2=upd H p (.lst ((aN (ks.take i)).map V.str))/\∃v2,σ=[some (.ref a),some (.ref p),v2]) ⟨rfl,none,rfl⟩ (λi σ H2 _ hh=>?_) (λi x σ H2 hi hh=>?_) λσ H2 hh=>?_⟩
  ·obtain⟨rfl,v2,rfl⟩:=hh
   exact tS ha np
  ·obtain⟨rfl,v2,rfl⟩:=hh
   rw [List.getElem?_map]at hi
   obtain⟨k,hk,rfl⟩:=Option.map_eq_some_iff.mp hi
   have hik:=(List.getElem?_eq_some_iff.mp hk).1
   walk_at "d"
   have hol:(aN (ks.take i)).length<=i:=dZ i _ (by rw [List.length_take];omega)
   have et:ks.take (i+1)=ks.take i++[k]:=by rw [List.take_add_one,hk];rfl
   refine aH ⟨_,rfl,_,rfl,p,_,rfl,.inl (SqL.of aj),rfl,?_,?_⟩
   ·rw [List.all_map,List.all_eq_true];intro _ _;rfl
   rw [if_pos rfl,bP]
   refine⟨_,rfl,?_⟩
   by_cases z:k∈aN (ks.take i)
   ·rw [decide_eq_true z]
    refine aZ (aA ⟨?_,_,rfl⟩)
    rw [et,dY,if_pos z]
   ·rw [decide_eq_false z]
    refine bB (aX ⟨_,rfl,.inl ⟨rfl,_,SqL.of aj⟩,_,rfl,p,_,_,rfl,rfl,aj,by rw [List.length_map];exact bj ‹1›,?_,_,rfl⟩)
    rw [bv,et,dY,if_neg z,List.map_append];rfl
  ·obtain⟨rfl,v2,rfl⟩:=hh
   rw [List.length_map,List.take_length]
   exact aD ⟨_,rfl,q p np⟩
end Mine
namespace L2
open PySem PySem.Spec PyProof.Rows
theorem kJ:∀l:List (Str × Tok),aM ((l.map (·.1)).map V.str) (strValues l)
 | []=>.nil
 | p::l=>.cons ⟨p.2,rfl⟩ (kJ l)
inductive rSplit (x:V) (xs:List V) (H:Hp) (Q:VK):Prop
 | mk (i j) (h1:x=.str i) (h2:xs=[.str j]) (h3:(j.length == 0)=false) (h4:i.length<=sizeLine) (h5:(Txt.split i j).length<=sizeLine) (h6:∀l,H l=none->Q (.ref l) (upd H l (.lst ((Txt.split i j).map V.str)))):rSplit x xs H Q
theorem nY {X:Cx}:MtR X "str.split" rSplit:=by
 intro pins s σ H x xs v us Q I rx rv h
 obtain⟨i,j,rfl,rfl,hj,hi,hl,q⟩:=h
 obtain⟨t,rfl⟩:=rx
 obtain⟨u,rfl,ru⟩:=aM.one rv
 obtain⟨t2,rfl⟩:=ru
 have fin:∀(l:List (Str × Tok)) (tk c:Nat),l.map (·.1)=Txt.split i j->EP X pins σ Q (.ref s.heap.objs.size) { s with toks:=tk,heap:=s.heap.push { cls:=.type "list", data:=.seq (strValues l).toArray c } }:=λl tk c e=>by
  have vv:=kJ l
  rw [e]at vv
  exact⟨.ref s.heap.objs.size,_,I.laid (t':=tk) (λb o eb=>zH0 _ eb) (Nat.le_refl _) (show bA X.prog X.w _ _ _ (.lst ((Txt.split i j).map V.str)) from ⟨by rw [List.length_map];exact hl,strValues l,c,vv,Heap.get?_push_size _ rfl⟩),rfl,q _ (I.hok.fresh (Nat.le_refl _))⟩
 cases c1:(decide (i.length < j.length) || decide (Builtin.Str.strKind i < Builtin.Str.strKind j)) with
 | true=>
  refine call_meets F.slot_str_split (typeIs_str _ _ _) F.entry_str_split (F.args_str_split_2 _ _) (meets_str_split_cannot_occur i j t t2 c1) ?_
  exact fin [(i,t)] s.toks _ (if_pos c1).symm
 | false=>
  cases c2:(Builtin.Str.occurrences i j 0 i.length (i.length+1)).isEmpty with
  | true=>
   refine call_meets F.slot_str_split (typeIs_str _ _ _) F.entry_str_split (F.args_str_split_2 _ _) (meets_str_split_not_found i j t t2 c1 hj c2) ?_
   exact fin [(i,t)] s.toks _ ((if_neg (ne_true_of_eq_false c1)).trans (if_pos c2)).symm
  | false=>
   have es:Txt.split i j=Builtin.Str.partsBetween i (Builtin.Str.occurrences i j 0 i.length (i.length+1)) j.length:=(if_neg (ne_true_of_eq_false c1)).trans (if_neg (ne_true_of_eq_false c2))
   refine call_meets F.slot_str_split (typeIs_str _ _ _) F.entry_str_split (F.args_str_split_2 _ _) (meets_str_split_sep i j t t2 c1 hj c2 hi (by rw [<- es];exact hl)) ?_
   rw [strsFrom_eq]
   exact fin (numbered s.toks _) _ _ ((numbered_texts _ _).trans es.symm)
theorem oM {c:Nat}{A B:List Nat}:∀{p q:List Nat},c∉p->c∉q->p++c::A=q++c::B->p=q/\A=B
 | [],[],_,_,h=>⟨rfl,(List.cons.inj h).2⟩
 | [],y::q,_,hq,h=>absurd (List.mem_cons.mpr (.inl (List.cons.inj h).1)) hq
 | x::p,[],hp,_,h=>absurd (List.mem_cons.mpr (.inl (List.cons.inj h).1.symm)) hp
 | x::p,y::q,hp,hq,h=>by
  obtain⟨h1,h2⟩:=List.cons.inj h
  obtain⟨e1,e2⟩:=oM (λz=>hp (List.mem_cons_of_mem _ z)) (λz=>hq (List.mem_cons_of_mem _ z)) h2
  exact⟨by rw [h1,e1],e2⟩
theorem fu (c:Nat) (x y:Str) (zs:List Str):(Str.join ⟨#[c]⟩ (x::y::zs)).cps.toList=x.cps.toList++c::(Str.join ⟨#[c]⟩ (y::zs)).cps.toList:=by
 show (x++(⟨#[c]⟩:Str)++Str.join ⟨#[c]⟩ (y::zs)).cps.toList=_
 rw [ja,ja,List.append_assoc]
 rfl
theorem ow {c:Nat}:∀{ps qs:List Str},ps≠[]->qs≠[]->(∀w∈ps,c∉w.cps.toList)->(∀w∈qs,c∉w.cps.toList)->Str.join ⟨#[c]⟩ ps=Str.join ⟨#[c]⟩ qs->ps=qs
 | [],_,h,_,_,_,_=>absurd rfl h
 | _,[],_,h,_,_,_=>absurd rfl h
 | [p],[q],_,_,_,_,h=>by
  have h:p=q:=h
  rw [h]
 | [p],q::q'::qs,_,_,hp,_,h=>by
  have h:p=Str.join ⟨#[c]⟩ (q::q'::qs):=h
  have e:=congrArg (λx:Str=>x.cps.toList) h
  rw [fu]at e
  exact absurd (by rw [e];exact List.mem_append_right _ List.mem_cons_self) (hp p List.mem_cons_self)
 | p::p'::ps,[q],_,_,_,hq,h=>by
  have h:Str.join ⟨#[c]⟩ (p::p'::ps)=q:=h
  have e:=congrArg (λx:Str=>x.cps.toList) h
  rw [fu]at e
  exact absurd (by rw [<- e];exact List.mem_append_right _ List.mem_cons_self) (hq q List.mem_cons_self)
 | p::p'::ps,q::q'::qs,_,_,hp,hq,h=>by
  have e:=congrArg (λx:Str=>x.cps.toList) h
  rw [fu,fu]at e
  obtain⟨e1,e2⟩:=oM (hp p List.mem_cons_self) (hq q List.mem_cons_self) e
  rw [dc e1,ow (ps:=p'::ps) (qs:=q'::qs) (by simp) (by simp) (λw hw=>hp w (List.mem_cons_of_mem _ hw)) (λw hw=>hq w (List.mem_cons_of_mem _ hw)) (dc e2)]
theorem ji {ws:List Str}{c:Nat} (hne:ws≠[]) (hf:∀w∈ws,c∉w.cps.toList):Txt.split (Txt.join ⟨#[c]⟩ ws) ⟨#[c]⟩=ws:=by
 have e:Txt.join ⟨#[c]⟩ ws=Str.join ⟨#[c]⟩ ws:=by
  show Builtin.Str.glued ⟨#[c]⟩ ws=_
  exact StrLaws.glued_eq_join _ _
 rw [e]
 refine ow (λz=>?_) hne (StrLaws.split_free _ _) hf (StrLaws.join_split _ _)
 have:=PyProof.Rows.split_pos (Str.join ⟨#[c]⟩ ws) ⟨#[c]⟩
 rw [z]at this
 cases this
end L2
namespace Mine
open PySem L2
variable {P:Program}{w:World}{K:W.Frag}{mg:Str->Option Value}{base:Heap}
noncomputable abbrev uL:Stmt:=aU (top 39) 1
noncomputable abbrev sGo:Stmt:=aU (top 39) 2
structure RdC (K:PySem.W.Frag) (R:Addr):Prop where
 cl:Cls K R
 n1:NoAttr K R "words"
 n2:NoAttr K R "place"
 n3:NoAttr K R "opened"
noncomputable def dW (lw:Addr) (pl op:Int):List (Str × V):=[("words", V.ref lw),("place", V.int pl),("opened", V.int op)]
theorem Ah (lw:Addr) (pl op:Int):(dW lw pl op).lookup ("words" : Str)=some (.ref lw):=rfl
theorem xD (lw:Addr) (pl op:Int):(dW lw pl op).lookup ("place" : Str)=some (.int pl):=by
 unfold dW
 rw [List.lookup_cons,show (("place" : Str) == ("words" : Str))=false from ‹0›]
 rfl
theorem Ai (lw:Addr) (pl op pl':Int):cX "place" (.int pl') (dW lw pl op)=dW lw pl' op:=by
 rfl
structure RdAt (R:Addr) (H:Hp) (r lw:Addr) (ws:List Str) (pl:Nat) (op:Int):Prop where
 ob:∃dx,H r=some (.ins R dx (dW lw pl op))
 wd:H lw=some (.lst (ws.map V.str))
noncomputable def fY (R:Addr):Sp:=λvs H Q _=>∃(r lw:Addr) (ws:List Str) (pl:Nat) (op:Int) (w:Str),vs=[.ref r]/\RdAt R H r lw ws pl op/\ws[pl]?=some w/\Q (.str w) H
noncomputable def pe (R:Addr):Sp:=λvs H Q _=>∃(r lw:Addr) (ws:List Str) (pl:Nat) (op:Int),vs=[.ref r,.bl true]/\RdAt R H r lw ws pl op/\∀H',(∀b o,H b=some o->b≠r->H' b=some o)->RdAt R H' r lw ws (pl+1) op->Q .non H'
theorem A5:FnScope ["self"] ["self"] (aq uL):=‹2›
theorem y9 {f R:Addr}{fd:FuncData} (F:Fun K "here" "Reader.here" uL f fd) (N:Free mg) (T:RdC K R):FnOk P w K mg base CX0 1 f fd ["self"] (fY R):=by
 refine F.ok (k:=0) A5 (λvs H Q E h=>?_) (λcdv A outer s H vs Q E hr h=>?_)
 ·obtain⟨r,lw,ws,pl,op,w,rfl,_⟩:=h
  rfl
 ·obtain⟨r,lw,ws,pl,op,w,rfl,⟨⟨dx,ho⟩,hw⟩,hx,q⟩:=h
  have hu:=aL hr
  refine⟨_,(af (bt (aK bK (cb (pv 0) rfl) (aG aO (by rfl) N.len PySem.boot_len (aa (cb (pv 0) rfl) ae)) (aS _)) (ao gI) aI)
   (ao (ay (bn br (cb (pv 0) rfl) (cb (pv 0) rfl) (λ_ _=>rfl))))),?_⟩
  have hlt:=(List.getElem?_eq_some_iff.mp hx).1
  have at0:SqL K H lw (ws.map V.str):=SqL.of hw
  refine ag (aH ⟨_,rfl,r,R,dx,_,_,rfl,ho,T.cl,T.n2,xD _ _ _,_,rfl,r,R,dx,_,_,rfl,ho,T.cl,T.n1,Ah _ _ _,lw,_,rfl,.inl at0,rfl,_,rfl,?_⟩)
  rw [List.length_map,decide_eq_false (λz=>by have:=V.int.inj z;omega)]
  refine aZ (aA ?_)
  dsimp only
  exact aD ⟨_,rfl,r,R,dx,_,_,rfl,ho,T.cl,T.n1,Ah _ _ _,_,rfl,r,R,dx,_,_,rfl,ho,T.cl,T.n2,xD _ _ _,lw,_,_,.str w,rfl,rfl,at0,fM (by rw [List.getElem?_map,hx];rfl),q⟩
theorem Cv:FnScope ["self", "can_stand"] ["self", "can_stand"] (aq sGo):=‹2›
theorem BS {f R:Addr}{fd:FuncData} (F:Fun K "go_on" "Reader.go_on" sGo f fd) (N:Free mg) (T:RdC K R):FnOk P w K mg base CX0 1 f fd ["self", "can_stand"] (pe R):=by
 refine F.ok (k:=0) Cv (λvs H Q E h=>?_) (λcdv A outer s H vs Q E hr h=>?_)
 ·obtain⟨r,lw,ws,pl,op,rfl,_⟩:=h
  rfl
 ·obtain⟨r,lw,ws,pl,op,rfl,⟨⟨dx,ho⟩,hw⟩,q⟩:=h
  have hu:=aL hr
  refine⟨_,(af (bt (gh (eG (pv 1))) (ao gI) aI)
   (ao (ii (pv 0) au wa))),?_⟩
  refine ag (aH ⟨_,rfl,_,rfl,aZ (aA ?_)⟩)
  dsimp only
  refine⟨_,rfl,r,R,dx,_,_,rfl,ho,T.cl,T.n2,xD _ _ _,_,_,rfl,rfl,dx,_,ho,by show 3 < 1000;decide,?_⟩
  rw [Ai]
  have hlr:lw≠r:=cR hw ho (λz=>nomatch z)
  exact q _ (λb o e n=>by rw [ah n];exact e) ⟨⟨dx,aj⟩,by rw [ah hlr];exact hw⟩
noncomputable abbrev uz:Stmt:=aU (top 39) 4
noncomputable abbrev ur:Stmt:=aU (top 39) 5
noncomputable abbrev uO:Stmt:=aU (top 39) 6
noncomputable abbrev uE:Stmt:=aU (top 39) 7
theorem bx (lw:Addr) (pl op:Int){m:Str} (h1:decide (m = "words")=false) (h2:decide (m = "place")=false) (h3:decide (m = "opened")=false):(dW lw pl op).lookup m=none:=by
 unfold dW
 rw [List.lookup_cons,beq_eq_false_iff_ne.mpr (of_decide_eq_false h1),List.lookup_cons,beq_eq_false_iff_ne.mpr (of_decide_eq_false h2),List.lookup_cons,beq_eq_false_iff_ne.mpr (of_decide_eq_false h3)]
 rfl
theorem RdAt.keep {R:Addr}{H H':Hp}{r lw:Addr}{ws:List Str}{pl:Nat}{op:Int} (h:RdAt R H r lw ws pl op) (g:bh H H'):RdAt R H' r lw ws pl op:=⟨let ⟨dx,e⟩:=h.ob;⟨dx,g _ _ e⟩,g _ _ h.wd⟩
def Ofr (r:Addr) (H H':Hp):Prop:=∀b o,H b=some o->b≠r->H' b=some o
noncomputable def lQ (R:Addr):Sp:=λvs H Q _=>∃(r lw:Addr) (ws:List Str) (pl:Nat) (op lo hi v:Int) (w:Str),vs=[.ref r,.int lo,.int hi]/\RdAt R H r lw ws pl op/\ws[pl]?=some w/\w.length < sizeLine/\gL w lo hi=.int v/\∀H',Ofr r H H'->RdAt R H' r lw ws (pl+1) op->Q (.int v) H'
noncomputable def tT (R:Addr):Sp:=λvs H Q _=>∃(r lw:Addr) (ws:List Str) (pl:Nat) (op v:Int) (w:Str),vs=[.ref r]/\RdAt R H r lw ws pl op/\ws[pl]?=some w/\w.length < sizeLine/\gL w (-1000000000) 1000000000=.int v/\∀H',Ofr r H H'->RdAt R H' r lw ws (pl+1) op->Q (.int v) H'
noncomputable def jo (R:Addr):Sp:=λvs H Q _=>∃(r lw:Addr) (ws:List Str) (pl:Nat) (op lo v:Int) (w:Str),vs=[.ref r,.int lo]/\RdAt R H r lw ws pl op/\ws[pl]?=some w/\w.length < sizeLine/\gL w lo 399=.int v/\∀H',Ofr r H H'->RdAt R H' r lw ws (pl+1) op->Q (.int v) H'
noncomputable def u0 (R:Addr):Sp:=λvs H Q _=>∃(r lw:Addr) (ws:List Str) (pl:Nat) (op:Int) (w:Str),vs=[.ref r]/\RdAt R H r lw ws pl op/\ws[pl]?=some w/\w.length < sizeLine/\cJ w dk 8=true/\∀H',Ofr r H H'->RdAt R H' r lw ws (pl+1) op->Q (.str w) H'
theorem uj:FnScope ["self", "low", "high", "number"] ["self", "low", "high"] (aq uz):=‹2›
theorem xT {f f1 f2 f3 R:Addr}{fd:FuncData} (F:Fun K "number_here" "Reader.number_here" uz f fd) (N:Free mg) (T:RdC K R){fd1:FuncData} (MH:MC P w K mg base R "here" 1 ["self"] [] [] (fY R) f1 fd1){fd2:FuncData} (MG:MC P w K mg base R "go_on" 1 ["self", "can_stand"] [] [] (pe R) f2 fd2){fd3:FuncData} (CO:Cal P w K mg base "number_of" 2 ["text", "low", "high"] ni f3 fd3):FnOk P w K mg base CX0 3 f fd ["self", "low", "high"] (lQ R):=by
 refine F.ok (k:=2) uj (λvs H Q E h=>?_) (λcdv A outer s H vs Q E hr h=>?_)
 ·obtain⟨r,lw,ws,pl,op,lo,hi,v,w,rfl,_⟩:=h
  rfl
 ·obtain⟨r,lw,ws,pl,op,lo,hi,v,w,rfl,h,hx,hl,hv,q⟩:=h
  have hu:=aL hr
  refine⟨_,(af (aE (i:=3) uj.nd rfl (Or.inl rfl) (aw CO.ok (hr.mono (by decide)) rfl CO.nm CO.kp CO.bd .nil av (aa (bw (pv 0) MH.cl MH.mt MH.ok (hr.mono (by decide)) MH.bd MH.dv av) (aa (pv 1) (aa (pv 2) ae)))))
   (af (aY (bH (pv 0) MG.cl MG.mt MG.ok (hr.mono (by decide)) MG.bd MG.dv av (aa (pT (mj (pv 3))) ae)))
   (ao (ay (pv 3))))),?_⟩
  obtain⟨dx,ho⟩:=h.ob
  refine ag (aC ⟨_,rfl,r,dx,_,rfl,ho,bx _ _ _ ‹0› ‹0› ‹0›,r,lw,ws,pl,op,w,rfl,h,hx,_,rfl,_,rfl,w,lo,hi,rfl,hl,λH1 g1=>?_⟩)
  rw [hv]
  walk_at "d"
  have h1:=h.keep g1
  obtain⟨dx1,ho1⟩:=h1.ob
  refine ag (aX ⟨_,rfl,r,dx1,_,rfl,ho1,bx _ _ _ ‹0› ‹0› ‹0›,_,rfl,r,lw,ws,pl,op,rfl,h1,λH2 o2 h2=>?_⟩)
  dsimp only
  exact aD ⟨_,rfl,q H2 (λb o e n=>o2 _ _ (g1 _ _ e) n) h2⟩
theorem ul:FnScope ["self", "key"] ["self"] (aq uE):=‹2›
theorem xW {f f1 f2 f3 R:Addr}{fd:FuncData} (F:Fun K "key_here" "Reader.key_here" uE f fd) (N:Free mg) (T:RdC K R){fd1:FuncData} (MH:MC P w K mg base R "here" 1 ["self"] [] [] (fY R) f1 fd1){fd2:FuncData} (MG:MC P w K mg base R "go_on" 1 ["self", "can_stand"] [] [] (pe R) f2 fd2){fd3:FuncData} (CN:Cal P w K mg base "is_name" 2 ["thing"] (jk K) f3 fd3):FnOk P w K mg base CX0 3 f fd ["self"] (u0 R):=by
 refine F.ok (k:=2) ul (λvs H Q E h=>?_) (λcdv A outer s H vs Q E hr h=>?_)
 ·obtain⟨r,lw,ws,pl,op,w,rfl,_⟩:=h
  rfl
 ·obtain⟨r,lw,ws,pl,op,w,rfl,h,hx,hl,hv,q⟩:=h
  have hu:=aL hr
  refine⟨_,(af (aE (i:=1) ul.nd rfl (Or.inl rfl) (bw (pv 0) MH.cl MH.mt MH.ok (hr.mono (by decide)) MH.bd MH.dv av))
   (af (aY (bH (pv 0) MG.cl MG.mt MG.ok (hr.mono (by decide)) MG.bd MG.dv av (aa (aw CN.ok (hr.mono (by decide)) rfl CN.nm CN.kp CN.bd .nil av (aa (pv 1) ae)) ae)))
   (ao (ay (pv 1))))),?_⟩
  obtain⟨dx,ho⟩:=h.ob
  refine ag (aC ⟨_,rfl,r,dx,_,rfl,ho,bx _ _ _ ‹0› ‹0› ‹0›,r,lw,ws,pl,op,w,rfl,h,hx,?_⟩)
  walk_at "d"
  refine ag (aX ⟨_,rfl,r,dx,_,rfl,ho,bx _ _ _ ‹0› ‹0› ‹0›,_,rfl,.str w,rfl,.inl ⟨w,rfl,hl,λH1 g1=>?_⟩⟩)
  rw [hv]
  exact⟨r,lw,ws,pl,op,rfl,h.keep g1,λH2 o2 h2=>aD ⟨_,rfl,q H2 (λb o e n=>o2 _ _ (g1 _ _ e) n) h2⟩⟩
theorem zU:FnScope ["self"] ["self"] (aq ur):=‹2›
theorem xN {f f1 R:Addr}{fd:FuncData} (F:Fun K "value_here" "Reader.value_here" ur f fd) (N:Free mg) (Z:Con mg) (T:RdC K R){fd1:FuncData} (MN:MC P w K mg base R "number_here" 3 ["self", "low", "high"] [] [] (lQ R) f1 fd1):FnOk P w K mg base CX0 4 f fd ["self"] (tT R):=by
 obtain⟨t1,c1⟩:=Z.value
 refine F.ok (k:=3) zU (λvs H Q E h=>?_) (λcdv A outer s H vs Q E hr h=>?_)
 ·obtain⟨r,lw,ws,pl,op,v,w,rfl,_⟩:=h
  rfl
 ·obtain⟨r,lw,ws,pl,op,v,w,rfl,h,hx,hl,hv,q⟩:=h
  have hu:=aL hr
  refine⟨_,(ao (ay (bH (pv 0) MN.cl MN.mt MN.ok (hr.mono (by decide)) MN.bd MN.dv av (aa (vd oW (bI (v:=.int 1000000000) (by rfl) c1 ⟨_,rfl⟩)) (aa (bI (v:=.int 1000000000) (by rfl) c1 ⟨_,rfl⟩) ae))))),?_⟩
  obtain⟨dx,ho⟩:=h.ob
  exact⟨_,rfl,r,dx,_,rfl,ho,bx _ _ _ ‹0› ‹0› ‹0›,_,rfl,r,lw,ws,pl,op,-1000000000,1000000000,v,w,rfl,h,hx,hl,hv,q⟩
theorem A6:FnScope ["self", "earliest"] ["self", "earliest"] (aq uO):=‹2›
theorem yc {f f1 R:Addr}{fd:FuncData} (F:Fun K "day_here" "Reader.day_here" uO f fd) (N:Free mg) (Z:Con mg) (T:RdC K R){fd1:FuncData} (MN:MC P w K mg base R "number_here" 3 ["self", "low", "high"] [] [] (lQ R) f1 fd1):FnOk P w K mg base CX0 4 f fd ["self", "earliest"] (jo R):=by
 obtain⟨t1,c1⟩:=Z.lastday
 refine F.ok (k:=3) A6 (λvs H Q E h=>?_) (λcdv A outer s H vs Q E hr h=>?_)
 ·obtain⟨r,lw,ws,pl,op,lo,v,w,rfl,_⟩:=h
  rfl
 ·obtain⟨r,lw,ws,pl,op,lo,v,w,rfl,h,hx,hl,hv,q⟩:=h
  have hu:=aL hr
  refine⟨_,(ao (ay (bH (pv 0) MN.cl MN.mt MN.ok (hr.mono (by decide)) MN.bd MN.dv av (aa (pv 1) (aa (bI (v:=.int 399) (by rfl) c1 ⟨_,rfl⟩) ae))))),?_⟩
  obtain⟨dx,ho⟩:=h.ob
  exact⟨_,rfl,r,dx,_,rfl,ho,bx _ _ _ ‹0› ‹0› ‹0›,_,rfl,r,lw,ws,pl,op,lo,399,v,w,rfl,h,hx,hl,hv,q⟩
noncomputable abbrev pI:Stmt:=aU (top 39) 8
noncomputable abbrev pF:Stmt:=aU (top 39) 9
noncomputable abbrev ma:Stmt:=aU (top 39) 10
noncomputable abbrev Ad:Stmt:=aU (top 39) 11
theorem Aj (lw:Addr) (pl op:Int):(dW lw pl op).lookup ("opened" : Str)=some (.int op):=by
 unfold dW
 rw [List.lookup_cons,show (("opened" : Str) == ("words" : Str))=false from ‹0›,List.lookup_cons,show (("opened" : Str) == ("place" : Str))=false from ‹0›]
 rfl
theorem qO (lw:Addr) (pl op op':Int):cX "opened" (.int op') (dW lw pl op)=dW lw pl op':=by rfl
noncomputable def iO (R:Addr):Sp:=λvs H Q _=>∃(r lw:Addr) (ws:List Str) (pl:Nat) (op:Int),vs=[.ref r]/\RdAt R H r lw ws pl op/\ws[pl]?=some ‹"("›/\op < 3/\∀H',Ofr r H H'->RdAt R H' r lw ws (pl+1) (op+1)->Q .non H'
noncomputable def gD (R:Addr):Sp:=λvs H Q _=>∃(r lw:Addr) (ws:List Str) (pl:Nat) (op:Int),vs=[.ref r]/\RdAt R H r lw ws pl op/\ws[pl]?=some ‹")"›/\∀H',Ofr r H H'->RdAt R H' r lw ws (pl+1) (op - 1)->Q .non H'
noncomputable def yQ (R:Addr):Sp:=λvs H Q _=>∃(r lw:Addr) (ws:List Str) (op:Int),vs=[.ref r]/\RdAt R H r lw ws ws.length op/\Q .non H
theorem xt:FnScope ["self"] ["self"] (aq pF):=‹2›
theorem vx {f f1 f2 R:Addr}{fd:FuncData} (F:Fun K "bracket_opens" "Reader.bracket_opens" pF f fd) (N:Free mg) (Z:Con mg) (T:RdC K R){fd1:FuncData} (MH:MC P w K mg base R "here" 1 ["self"] [] [] (fY R) f1 fd1){fd2:FuncData} (MG:MC P w K mg base R "go_on" 1 ["self", "can_stand"] [] [] (pe R) f2 fd2):FnOk P w K mg base CX0 2 f fd ["self"] (iO R):=by
 obtain⟨t1,c1⟩:=Z.opn
 refine F.ok (k:=1) xt (λvs H Q E h=>?_) (λcdv A outer s H vs Q E hr h=>?_)
 ·obtain⟨r,lw,ws,pl,op,rfl,_⟩:=h
  rfl
 ·obtain⟨r,lw,ws,pl,op,rfl,h,hx,h3,q⟩:=h
  have hu:=aL hr
  refine⟨_,(af (aY (bH (pv 0) MG.cl MG.mt MG.ok (hr.mono (by decide)) MG.bd MG.dv av (aa (fj (ck bK (bw (pv 0) MH.cl MH.mt MH.ok (hr.mono (by decide)) MH.bd MH.dv av) aB (aS _)) (fi (ck nN (cb (pv 0) rfl) (bI (v:=.int 3) (by rfl) c1 ⟨_,rfl⟩) (aS _)))) ae)))
   (ao (ii (pv 0) au wa))),?_⟩
  obtain⟨dx,ho⟩:=h.ob
  refine ag (aX ⟨_,rfl,r,dx,_,rfl,ho,bx _ _ _ ‹0› ‹0› ‹0›,_,rfl,r,dx,_,rfl,ho,bx _ _ _ ‹0› ‹0› ‹0›,r,lw,ws,pl,op,_,rfl,h,hx,rfl,_,rfl,bB ?_⟩)
  refine⟨_,rfl,r,R,dx,_,_,rfl,ho,T.cl,T.n3,Aj _ _ _,_,_,rfl,rfl,?_⟩
  rw [decide_eq_true h3]
  refine⟨r,lw,ws,pl,op,rfl,h,λH1 o1 h1=>?_⟩
  obtain⟨dx1,ho1⟩:=h1.ob
  refine⟨_,rfl,r,R,dx1,_,_,rfl,ho1,T.cl,T.n3,Aj _ _ _,_,_,rfl,rfl,dx1,_,ho1,by show 3 < 1000;decide,?_⟩
  rw [qO]
  have hlr:lw≠r:=cR h1.wd ho1 (λz=>nomatch z)
  exact q _ (λb o e n=>by rw [ah n];exact o1 _ _ e n) ⟨⟨dx1,aj⟩,by rw [ah hlr];exact h1.wd⟩
theorem uq:FnScope ["self"] ["self"] (aq ma):=‹2›
theorem sw {f f1 f2 R:Addr}{fd:FuncData} (F:Fun K "bracket_closes" "Reader.bracket_closes" ma f fd) (N:Free mg) (T:RdC K R){fd1:FuncData} (MH:MC P w K mg base R "here" 1 ["self"] [] [] (fY R) f1 fd1){fd2:FuncData} (MG:MC P w K mg base R "go_on" 1 ["self", "can_stand"] [] [] (pe R) f2 fd2):FnOk P w K mg base CX0 2 f fd ["self"] (gD R):=by
 refine F.ok (k:=1) uq (λvs H Q E h=>?_) (λcdv A outer s H vs Q E hr h=>?_)
 ·obtain⟨r,lw,ws,pl,op,rfl,_⟩:=h
  rfl
 ·obtain⟨r,lw,ws,pl,op,rfl,h,hx,q⟩:=h
  have hu:=aL hr
  refine⟨_,(af (aY (bH (pv 0) MG.cl MG.mt MG.ok (hr.mono (by decide)) MG.bd MG.dv av (aa (ck bK (bw (pv 0) MH.cl MH.mt MH.ok (hr.mono (by decide)) MH.bd MH.dv av) aB (aS _)) ae)))
   (ao (ii (pv 0) au AY))),?_⟩
  obtain⟨dx,ho⟩:=h.ob
  refine ag (aX ⟨_,rfl,r,dx,_,rfl,ho,bx _ _ _ ‹0› ‹0› ‹0›,_,rfl,r,dx,_,rfl,ho,bx _ _ _ ‹0› ‹0› ‹0›,r,lw,ws,pl,op,_,rfl,h,hx,rfl,r,lw,ws,pl,op,rfl,h,λH1 o1 h1=>?_⟩)
  obtain⟨dx1,ho1⟩:=h1.ob
  refine⟨_,rfl,r,R,dx1,_,_,rfl,ho1,T.cl,T.n3,Aj _ _ _,_,_,rfl,rfl,dx1,_,ho1,by show 3 < 1000;decide,?_⟩
  rw [qO]
  have hlr:lw≠r:=cR h1.wd ho1 (λz=>nomatch z)
  exact q _ (λb o e n=>by rw [ah n];exact o1 _ _ e n) ⟨⟨dx1,aj⟩,by rw [ah hlr];exact h1.wd⟩
theorem sP {k:Str} (h:cJ k dk 8=true):44∉k.cps.toList:=λz=>by
 unfold cJ at h
 rw [Bool.and_eq_true,Bool.and_eq_true]at h
 have:=List.all_eq_true.mp h.2.2 44 z
 exact absurd this ‹0›
theorem oN:‹","› = (⟨#[44]⟩:Str):=‹0›
noncomputable def iP (R:Addr):Sp:=λvs H Q _=>∃(r lw:Addr) (ws:List Str) (pl:Nat) (op:Int) (ks:List Str),vs=[.ref r]/\RdAt R H r lw ws pl op/\ws[pl]?=some (Txt.join ‹","› ks)/\(Txt.join ‹","› ks).length<=sizeLine/\1<=ks.length/\ks.length<=8/\ks.Nodup/\(∀k∈ks,cJ k dk 8=true/\k.length < sizeLine)/\∀(p:Addr) (H':Hp),H p=none->Ofr r H H'->H' p=some (.lst (ks.map V.str))->RdAt R H' r lw ws (pl+1) op->Q (.ref p) H'
theorem qN:FnScope ["self", "keys"] ["self"] (aq pI):=‹2›
theorem vC {f f1 f2 f3 R:Addr}{fd:FuncData} (F:Fun K "keys_here" "Reader.keys_here" pI f fd) (N:Free mg) (T:RdC K R){fd1:FuncData} (MH:MC P w K mg base R "here" 1 ["self"] [] [] (fY R) f1 fd1){fd2:FuncData} (MG:MC P w K mg base R "go_on" 1 ["self", "can_stand"] [] [] (pe R) f2 fd2){fd3:FuncData} (CK:Cal P w K mg base "are_keys" 3 ["thing"] kQ f3 fd3):FnOk P w K mg base CX0 4 f fd ["self"] (iP R):=by
 refine F.ok (k:=3) qN (λvs H Q E h=>?_) (λcdv A outer s H vs Q E hr h=>?_)
 ·obtain⟨r,lw,ws,pl,op,ks,rfl,_⟩:=h
  rfl
 ·obtain⟨r,lw,ws,pl,op,ks,rfl,h,hx,hl,k1,k8,nd,hk,q⟩:=h
  have hu:=aL hr
  refine⟨_,(af (aE (i:=1) qN.nd rfl (Or.inl rfl) (cK PySem.F.plainAttrs_str PySem.F.slot_str_split PySem.F.type_str_split nY (bw (pv 0) MH.cl MH.mt MH.ok (hr.mono (by decide)) MH.bd MH.dv av) (aa aB ae)))
   (af (aY (bH (pv 0) MG.cl MG.mt MG.ok (hr.mono (by decide)) MG.bd MG.dv av (aa (aw CK.ok (hr.mono (by decide)) rfl CK.nm CK.kp CK.bd .nil av (aa (pv 1) ae)) ae)))
   (ao (ay (pv 1))))),?_⟩
  obtain⟨dx,ho⟩:=h.ob
  have es:Txt.split (Txt.join ‹","› ks) ‹","›=ks:=by
   rw [oN]
   exact ji (λz=>by rw [z]at k1;cases k1) λw hw=>sP (hk w hw).1
  refine ag (aC ⟨_,rfl,r,dx,_,rfl,ho,bx _ _ _ ‹0› ‹0› ‹0›,r,lw,ws,pl,op,_,rfl,h,hx,rfl,_,_,rfl,rfl,by rfl,hl,by rw [es];exact Nat.le_of_lt (bj ‹1›),λp np=>?_⟩)
  rw [es]
  obtain⟨g1,e1⟩:=laid (o:=.lst (ks.map V.str)) np
  walk_at "d"
  generalize upd H p _=H1 at g1 e1 ⊢
  have h1:=h.keep g1
  obtain⟨dx1,ho1⟩:=h1.ob
  have npr:p≠r:=λz=>by rw [z,ho]at np;cases np
  refine ag (aX ⟨_,rfl,r,dx1,_,rfl,ho1,bx _ _ _ ‹0› ‹0› ‹0›,_,rfl,p,ks,rfl,e1,k1,k8,nd,hk,λH2 g2=>⟨r,lw,ws,pl,op,rfl,h1.keep g2,λH3 o3 h3=>?_⟩⟩)
  exact aD ⟨_,rfl,q p H3 np (λb o e n=>o3 _ _ (g2 _ _ (g1 _ _ e)) n) (o3 _ _ (g2 _ _ e1) npr) h3⟩
theorem BH:FnScope ["self"] ["self"] (aq Ad):=‹2›
theorem AG {f R:Addr}{fd:FuncData} (F:Fun K "check_end" "Reader.check_end" Ad f fd) (N:Free mg) (T:RdC K R):FnOk P w K mg base CX0 1 f fd ["self"] (yQ R):=by
 refine F.ok (k:=0) BH (λvs H Q E h=>?_) (λcdv A outer s H vs Q E hr h=>?_)
 ·obtain⟨r,lw,ws,op,rfl,_⟩:=h
  rfl
 ·obtain⟨r,lw,ws,op,rfl,⟨⟨dx,ho⟩,hw⟩,q⟩:=h
  have hu:=aL hr
  refine⟨_,(ao (bt (aK nN (cb (pv 0) rfl) (aG aO (by rfl) N.len PySem.boot_len (aa (cb (pv 0) rfl) ae)) (aS _)) (ao gI) aI)),?_⟩
  have at0:SqL K H lw (ws.map V.str):=SqL.of hw
  refine aH ⟨_,rfl,r,R,dx,_,_,rfl,ho,T.cl,T.n2,xD _ _ _,_,rfl,r,R,dx,_,_,rfl,ho,T.cl,T.n1,Ah _ _ _,lw,_,rfl,.inl at0,_,_,rfl,rfl,_,rfl,?_⟩
  rw [List.length_map,decide_eq_false ‹1›]
  exact aZ (aA q)
noncomputable abbrev pJ:Stmt:=aU (top 39) 0
theorem mZ:‹" "› = (⟨#[32]⟩:Str):=‹0›
theorem Ak (lw:Addr) (pl op:Int):cX "opened" (.int op) (cX "place" (.int pl) (cX "words" (.ref lw) []))=dW lw pl op:=rfl
noncomputable def qJ (R:Addr):Sp:=λvs H Q _=>∃(x dx:Addr) (ws:List Str),vs=[.ref x,.str (Txt.join ‹" "› ws)]/\H x=some (.ins R dx [])/\ws≠[]/\ws.length<=900/\(∀w∈ws,32∉w.cps.toList)/\(Txt.join ‹" "› ws).length<=sizeLine/\∀(lw:Addr) (H':Hp),H lw=none->(∀b o,H b=some o->b≠x->H' b=some o)->RdAt R H' x lw ws 0 0->Q .non H'
theorem xu:FnScope ["self", "text"] ["self", "text"] (aq pJ):=‹2›
theorem vD {f R:Addr}{fd:FuncData} (F:Fun K "__init__" "Reader.__init__" pJ f fd) (N:Free mg) (T:RdC K R):FnOk P w K mg base CX0 1 f fd ["self", "text"] (qJ R):=by
 refine F.ok (k:=0) xu (λvs H Q E h=>?_) (λcdv A outer s H vs Q E hr h=>?_)
 ·obtain⟨x,dx,ws,rfl,_⟩:=h
  rfl
 ·obtain⟨x,dx,ws,rfl,hx,hne,hl,hf,hs,q⟩:=h
  have hu:=aL hr
  refine⟨_,(af (bz (pv 0) (cK PySem.F.plainAttrs_str PySem.F.slot_str_split PySem.F.type_str_split nY (pv 1) (aa aB ae)) rfl)
   (af (bz (pv 0) au rfl)
   (ao (bz (pv 0) au rfl)))),?_⟩
  have es:Txt.split (Txt.join ‹" "› ws) ‹" "›=ws:=by
   rw [mZ]
   exact ji hne hf
  refine ag ⟨_,rfl,rfl,_,_,rfl,rfl,by rfl,hs,by rw [es];exact Nat.le_of_lt (bj ‹1›),λlw nlw=>?_⟩
  rw [es]
  obtain⟨g1,e1⟩:=laid (o:=.lst (ws.map V.str)) nlw
  have hx1:=g1 _ _ hx
  have hlx:lw≠x:=λz=>by rw [z,hx]at nlw;cases nlw
  generalize upd H lw _=H1 at g1 e1 hx1 ⊢
  refine⟨_,rfl,x,R,dx,_,rfl,hx1,T.cl,T.n1,(by show 0 < 1000;decide),?_⟩
  refine ag ⟨_,rfl,x,R,dx,_,rfl,aj,T.cl,T.n2,(by show 1 < 1000;decide),?_⟩
  refine⟨_,rfl,x,R,dx,_,rfl,aj,T.cl,T.n3,(by show 2 < 1000;decide),?_⟩
  rw [bv,bv,Ak]
  exact q lw _ nlw (λb o e n=>by rw [ah n];exact g1 _ _ e) ⟨⟨dx,aj⟩,by rw [ah hlx];exact e1⟩
noncomputable abbrev Af:Stmt:=aU (top 39) 3
noncomputable abbrev iJ:List Str:=[‹"number"›, ‹"value"›, ‹"since"›, ‹"part"›, ‹"change"›]
noncomputable abbrev eQ:List Str:=[‹"sum"›, ‹"count"›, ‹"least"›, ‹"greatest"›]
noncomputable abbrev eW:List Str:=[‹"plus"›, ‹"minus"›]
noncomputable abbrev fO:List Str:=[‹"less"›, ‹"same"›]
structure ConT (K:PySem.W.Frag) (mg:Str->Option Value):Prop where
 sgl:∃a,mg "SINGLE" = some (.ref a)/\∀H,SqT K H a (iJ.map V.str)
 gth:∃a,mg "GATHERING" = some (.ref a)/\∀H,SqT K H a (eQ.map V.str)
 rck:∃a,mg "RECKONING" = some (.ref a)/\∀H,SqT K H a (eW.map V.str)
 chc:∃a,mg "CHOICE" = some (.ref a)/\∀H,SqT K H a (fO.map V.str)
noncomputable def qK (R:Addr):Sp:=λvs H Q _=>∃(r lw:Addr) (ws:List Str) (pl:Nat) (op:Int) (w:Str),vs=[.ref r]/\RdAt R H r lw ws pl op/\ws[pl]?=some w/\(w∈iJ\/w∈eQ\/w∈eW\/w∈fO)/\∀H',Ofr r H H'->RdAt R H' r lw ws (pl+1) op->Q (.str w) H'
theorem bD (xs:List Str):(xs.map V.str).all gT=true:=by
 rw [List.all_map,List.all_eq_true];intro _ _;rfl
theorem yU:FnScope ["self", "word"] ["self"] (aq Af):=‹2›
theorem AI {f f1 f2 R:Addr}{fd:FuncData} (F:Fun K "beginning_here" "Reader.beginning_here" Af f fd) (N:Free mg) (ZT:ConT K mg) (T:RdC K R){fd1:FuncData} (MH:MC P w K mg base R "here" 1 ["self"] [] [] (fY R) f1 fd1){fd2:FuncData} (MG:MC P w K mg base R "go_on" 1 ["self", "can_stand"] [] [] (pe R) f2 fd2):FnOk P w K mg base CX0 2 f fd ["self"] (qK R):=by
 obtain⟨a1,c1,q1⟩:=ZT.sgl
 obtain⟨a2,c2,q2⟩:=ZT.gth
 obtain⟨a3,c3,q3⟩:=ZT.rck
 obtain⟨a4,c4,q4⟩:=ZT.chc
 refine F.ok (k:=1) yU (λvs H Q E h=>?_) (λcdv A outer s H vs Q E hr h=>?_)
 ·obtain⟨r,lw,ws,pl,op,w,rfl,_⟩:=h
  rfl
 ·obtain⟨r,lw,ws,pl,op,w,rfl,h,hx,hw,q⟩:=h
  have hu:=aL hr
  refine⟨_,(af (aE (i:=1) yU.nd rfl (Or.inl rfl) (bw (pv 0) MH.cl MH.mt MH.ok (hr.mono (by decide)) MH.bd MH.dv av))
   (af (aY (bH (pv 0) MG.cl MG.mt MG.ok (hr.mono (by decide)) MG.bd MG.dv av (aa (ve (ck cG (pv 1) (bI (v:=.ref a1) (by rfl) c1 rfl) (by with_unfolding_all rfl)) (ve (ck cG (pv 1) (bI (v:=.ref a2) (by rfl) c2 rfl) (by with_unfolding_all rfl)) (ve (ck cG (pv 1) (bI (v:=.ref a3) (by rfl) c3 rfl) (by with_unfolding_all rfl)) (fi (ck cG (pv 1) (bI (v:=.ref a4) (by rfl) c4 rfl) (by with_unfolding_all rfl)))))) ae)))
   (ao (ay (pv 1))))),?_⟩
  obtain⟨dx,ho⟩:=h.ob
  refine ag (aC ⟨_,rfl,r,dx,_,rfl,ho,bx _ _ _ ‹0› ‹0› ‹0›,r,lw,ws,pl,op,w,rfl,h,hx,?_⟩)
  walk_at "d"
  refine ag (aX ⟨_,rfl,r,dx,_,rfl,ho,bx _ _ _ ‹0› ‹0› ‹0›,_,rfl,a1,_,rfl,.inr (q1 _),rfl,bD _,?_⟩)
  rw [if_neg Bool.false_ne_true,bP]
  refine⟨_,rfl,?_⟩
  by_cases z1:w∈iJ
  ·rw [decide_eq_true z1]
   refine bB ?_
   exact⟨r,lw,ws,pl,op,rfl,h,λH1 o1 h1=>aD ⟨_,rfl,q H1 o1 h1⟩⟩
  rw [decide_eq_false z1]
  refine aZ ⟨_,rfl,a2,_,rfl,.inr (q2 _),rfl,bD _,?_⟩
  rw [if_neg Bool.false_ne_true,bP]
  refine⟨_,rfl,?_⟩
  by_cases z2:w∈eQ
  ·rw [decide_eq_true z2]
   refine bB ?_
   exact⟨r,lw,ws,pl,op,rfl,h,λH1 o1 h1=>aD ⟨_,rfl,q H1 o1 h1⟩⟩
  rw [decide_eq_false z2]
  refine aZ ⟨_,rfl,a3,_,rfl,.inr (q3 _),rfl,bD _,?_⟩
  rw [if_neg Bool.false_ne_true,bP]
  refine⟨_,rfl,?_⟩
  by_cases z3:w∈eW
  ·rw [decide_eq_true z3]
   refine bB ?_
   exact⟨r,lw,ws,pl,op,rfl,h,λH1 o1 h1=>aD ⟨_,rfl,q H1 o1 h1⟩⟩
  rw [decide_eq_false z3]
  have z4:w∈fO:=((hw.resolve_left z1).resolve_left z2).resolve_left z3
  refine aZ ⟨_,rfl,a4,_,rfl,.inr (q4 _),rfl,bD _,?_⟩
  rw [if_neg Bool.false_ne_true,bP,decide_eq_true z4]
  exact⟨r,lw,ws,pl,op,rfl,h,λH1 o1 h1=>aD ⟨_,rfl,q H1 o1 h1⟩⟩
end Mine
namespace L2
open PySem PySem.Spec PyProof.Rows
theorem di {X:Cx}{CX:CXT}{cn m:Str}{C f:Addr}{mc:Value}{k:Nat}{fd:FuncData}{ps:List Str}{sp:Sp}{ds:List Value}{dvs:List V}{E:XK}{e:Expr}{es:List Expr}{t:TA}{p apos pos:Pos}{pl:Sem Bool} (hg:Gl X cn) (hmg:X.mg cn=some (.ref C))
  (h1:PySem.W.specialIn X.K (.ref C) "__getattribute__" = some (some (.builtin "type.__getattribute__"))) (h2:PySem.W.readsIn X.K C mc=true) (h3:PySem.W.findCls X.K (.ref C) mc m=some (.val (.ref f))) (h4:PySem.W.handedIn (.ref f)=true)
  (F:FnOk X.prog X.w X.K X.mg X.base CX k f fd ps sp) (hr:Room k X.A) (hk:PySem.W.keepIn X.K (.ref f)=true) (hb:cj X.K fd ps ds) (hd:aM dvs ds) (hx:dJ CX X E) (ha:PA X (e::es) t)
  (hst:starEach (e::es) X.env=(false,eval e X.env)::starEach es X.env:=by rfl) (hpl:(backTo pos (starEach es X.env)).any (·.1)=false:=by rfl)
  (ht:eval (.Call (.Attribute (.Name cn p) m apos) (e::es) [] pos) X.env=(do
   let ov <- eval (.Name cn p) X.env
   standAt apos.atName
   let (f,first) <- holding [ov] (getMethod ov m pl)
   callWith pos f first (backTo pos (starEach (e::es) X.env)) (backToKw pos (keywordEach [] X.env))):=by rfl)
  (hdb:(cn == ("__debug__" : Str))=false:=by decide):PE X (.Call (.Attribute (.Name cn p) m apos) (e::es) [] pos) (jg sp dvs E t):=by
 intro pins s σ H Q I h
 refine PySem.W.methodCall_KW (pl:=pl) (j4 I hg hmg ?_ hdb) ht
 refine PySem.W.method_cls I.kIn h1 (PySem.W.cls_value I.kIn h2 h3 h4 ?_)
 refine PySem.W.callWith_K (first:=[]) (h₀:=X.base) I.ok.mod.kin hk (thn (ha pos pins _ σ H _ (I.tok (s.toks+1)) h) λus s2 ⟨vs,H2,I2,r,q2⟩=>⟨I2.kIn,?_⟩) hst hpl
 exact ig F hr hb hd hx I2 r q2
end L2
namespace Mine
open PySem L2
variable {P:Program}{w:World}{K:W.Frag}{mg:Str->Option Value}{base:Heap}
noncomputable abbrev pK:Stmt:=aU (top 17) 0
noncomputable def cW:List Str:=[‹"written"›, ‹"names"›, ‹"levels"›, ‹"number"›, ‹"key"›, ‹"day"›, ‹"word"›, ‹"first"›, ‹"last"›, ‹"bound"›, ‹"one"›, ‹"other"›, ‹"rank"›, ‹"inner"›]
structure QuC (K:PySem.W.Frag) (C:Addr):Prop where
 cl:Cls K C
 no:∀f∈cW,NoAttr K C f
theorem QuC.a_written {K:W.Frag}{C:Addr} (T:QuC K C):NoAttr K C "written":=T.no _ ‹0›
theorem QuC.a_names {K:W.Frag}{C:Addr} (T:QuC K C):NoAttr K C "names":=T.no _ ‹0›
theorem QuC.a_levels {K:W.Frag}{C:Addr} (T:QuC K C):NoAttr K C "levels":=T.no _ ‹0›
theorem QuC.a_number {K:W.Frag}{C:Addr} (T:QuC K C):NoAttr K C "number":=T.no _ ‹0›
theorem QuC.a_key {K:W.Frag}{C:Addr} (T:QuC K C):NoAttr K C "key":=T.no _ ‹0›
theorem QuC.a_day {K:W.Frag}{C:Addr} (T:QuC K C):NoAttr K C "day":=T.no _ ‹0›
theorem QuC.a_word {K:W.Frag}{C:Addr} (T:QuC K C):NoAttr K C "word":=T.no _ ‹0›
theorem QuC.a_first {K:W.Frag}{C:Addr} (T:QuC K C):NoAttr K C "first":=T.no _ ‹0›
theorem QuC.a_last {K:W.Frag}{C:Addr} (T:QuC K C):NoAttr K C "last":=T.no _ ‹0›
theorem QuC.a_bound {K:W.Frag}{C:Addr} (T:QuC K C):NoAttr K C "bound":=T.no _ ‹0›
theorem QuC.a_one {K:W.Frag}{C:Addr} (T:QuC K C):NoAttr K C "one":=T.no _ ‹0›
theorem QuC.a_other {K:W.Frag}{C:Addr} (T:QuC K C):NoAttr K C "other":=T.no _ ‹0›
theorem QuC.a_rank {K:W.Frag}{C:Addr} (T:QuC K C):NoAttr K C "rank":=T.no _ ‹0›
theorem QuC.a_inner {K:W.Frag}{C:Addr} (T:QuC K C):NoAttr K C "inner":=T.no _ ‹0›
noncomputable def bM (K:PySem.W.Frag):Sp:=λvs H Q _=>∃(x C dx lw lk:Addr) (fs:List (Str × V)) (ws ks:List Str) (d:Int),vs=[.ref x,.ref lw,.ref lk,.int d]/\QuC K C/\H x=some (.ins C dx fs)/\fs.length < 100/\H lw=some (.lst (ws.map V.str))/\SqL K H lk (ks.map V.str)/\ks.length<=900/\(ws.map (·.length)).sum+ws.length * ‹" "›.length<=16777216/\
 ∀(ln:Addr) (H':Hp),H ln=none->(∀b o,H b=some o->b≠x->H' b=some o)->H' ln=some (.lst ((aN ks).map V.str))->H' x=some (.ins C dx (cX "levels" (.int d) (cX "names" (.ref ln) (cX "written" (.str (Txt.join ‹" "› ws)) fs))))->Q .non H'
theorem xg {K:W.Frag}{H:Hp}{a x C dx:Addr}{xs:List V}{fs fs':List (Str × V)} (h:SqL K H a xs) (hx:H x=some (.ins C dx fs)):SqL K (upd H x (.ins C dx fs')) a xs:=by
 rcases h with(e | ⟨u,e⟩) | e
 ·exact .inl (.inl (by rw [ah (cR e hx (λz=>nomatch z))];exact e))
 ·exact .inl (.inr ⟨u,by rw [ah (cR e hx (λz=>nomatch z))];exact e⟩)
 ·exact .inr e
theorem xw:FnScope ["self", "words", "keys", "depth"] ["self", "words", "keys", "depth"] (aq pK):=‹2›
theorem vE {f f1:Addr}{fd:FuncData} (F:Fun K "__init__" "Question.__init__" pK f fd) (N:Free mg){fd1:FuncData} (CO:Cal P w K mg base "each_once" 1 ["keys"] (tW K) f1 fd1):FnOk P w K mg base CX0 2 f fd ["self", "words", "keys", "depth"] (bM K):=by
 refine F.ok (k:=1) xw (λvs H Q E h=>?_) (λcdv A outer s H vs Q E hr h=>?_)
 ·obtain⟨x,C,dx,lw,lk,fs,ws,ks,d,rfl,_⟩:=h
  rfl
 ·obtain⟨x,C,dx,lw,lk,fs,ws,ks,d,rfl,T,hx,hfs,hlw,hlk,hks,hsum,q⟩:=h
  have hu:=aL hr
  refine⟨_,(af (bz (pv 0) (cK PySem.F.plainAttrs_str PySem.F.slot_str_join PySem.F.type_str_join gN aB (aa (pv 1) ae)) rfl)
   (af (bz (pv 0) (aw CO.ok (hr.mono (by decide)) rfl CO.nm CO.kp CO.bd .nil av (aa (pv 2) ae)) rfl)
   (ao (bz (pv 0) (pv 3) rfl)))),?_⟩
  refine ag ⟨rfl,_,rfl,_,lw,ws,rfl,rfl,hlw,hsum,_,rfl,x,C,dx,_,rfl,hx,T.cl,T.a_written,by omega,?_⟩
  dsimp only
  have l1:=dO "written" (.str (Txt.join ‹" "› ws)) fs
  refine ag ⟨_,rfl,lk,ks,rfl,xg hlk hx,hks,λln nln=>?_⟩
  have nlx:ln≠x:=λz=>by rw [z,aj]at nln;cases nln
  have nl0:H ln=none:=by rw [ah nlx]at nln;exact nln
  have l2:=dO "names" (.ref ln) (cX "written" (.str (Txt.join ‹" "› ws)) fs)
  refine⟨_,rfl,x,C,dx,cX "written" (.str (Txt.join ‹" "› ws)) fs,rfl,by rw [ah (Ne.symm nlx),aj],T.cl,T.a_names,by omega,?_⟩
  dsimp only
  refine⟨_,rfl,_,rfl,x,C,dx,_,rfl,aj,T.cl,T.a_levels,by omega,?_⟩
  refine q ln _ nl0 (λb o e n=>?_) ?_ aj
  ·rw [ah n,ah n,ah (ai e nl0),ah n];exact e
  ·rw [ah nlx,ah nlx,aj]
end Mine
namespace L2
open PySem PySem.Spec PyProof.Rows
theorem yE:∀{ns:List Int}{us:List Value},aM (ns.map V.int) us->∃xs:List (Int × Tok),us=xs.map (λp=>Value.int p.1 p.2)/\xs.map (·.1)=ns
 | [],_,r=>by
  cases r
  exact⟨[],rfl,rfl⟩
 | n::ns,_,r=>by
  cases r with
  | cons a t=>
   obtain⟨tk,rfl⟩:=a
   obtain⟨xs,rfl,rfl⟩:=yE t
   exact⟨(n,tk)::xs,rfl,rfl⟩
section
variable {X:Cx}
theorem gQ {pins:List (Addr × Obj)}{σ:St}{H:Hp}{s:Shared}{a:Addr}{ns:List Int} (I:Inv X pins σ H s) (hS:SqL X.K H a (ns.map V.int)):∃ys:Array (Int × Tok),s.heap.IsList a (intItems ys)/\ys.toList.map (·.1)=ns:=by
 obtain⟨its,rv,p,hz⟩:=I.list hS
 obtain⟨ys,rfl,e⟩:=yE rv
 refine⟨ys.toArray,?_,e⟩
 have h:=p.isList
 rw [<- List.map_toArray]at h
 exact h
theorem gK {ys:Array (Int × Tok)}{ns:List Int} (e:ys.toList.map (·.1)=ns):ys.size=ns.length:=by rw [<- e,List.length_map,Array.length_toList]
inductive rMaxL (K:PySem.W.Frag) (xs:List V) (H:Hp) (Q:VK):Prop
 | mk (a:Addr) (ns:List Int) (h1:xs=[.ref a]) (h2:SqL K H a (ns.map V.int)) (h3:ns≠[]) (h4:∀M,M∈ns->(∀x∈ns,x<=M)->Q (.int M) H):rMaxL K xs H Q
theorem lA (hc:X.calm=true):cD X (.builtin "max") (rMaxL X.K):=by
 intro pins s σ H xs us Q I r h
 obtain⟨a,ns,rfl,hS,hne,q⟩:=h
 obtain⟨u,rfl,ru⟩:=bY r
 cases (show u=Value.ref a from ru)
 obtain⟨ys,hl,e⟩:=gQ I hS
 have hn:=List.length_pos_iff.mpr hne
 have hy:=gK e
 refine max_intList (I.ok.hd hc) hl ‹1› λv h' tk hv hk=>?_
 obtain⟨t,rfl⟩:=intItems_at hv
 obtain⟨h1,h2⟩:=argBest_gt (numAt ys) (ys.size - 1)
 refine⟨.int _,H,I.kept hk,⟨_,rfl⟩,q _ ?_ λx hx=>?_⟩
 ·rw [numAt_eq,e];exact getD_mem ‹1›
 ·obtain⟨j,hj,rfl⟩:=mem_getD hx
  have:=h2 j ‹1›
  rw [numAt_eq,e]at this
  exact this
inductive rStrA (xs:List V) (H:Hp) (Q:VK):Prop
 | int (i:Int) (h1:xs=[.int i]) (h2:i.natAbs.log2 < 1920) (h3:Q (.str (Str.ofString (toString i))) H):rStrA xs H Q
 | str (x:Str) (h1:xs=[.str x]) (h3:Q (.str x) H):rStrA xs H Q
theorem sQ:cD X (.type "str") rStrA:=by
 intro pins s σ H xs us Q I r h
 rcases h with⟨i,rfl,hz,q⟩ | ⟨x,rfl,q⟩
 ·obtain⟨u,rfl,t,rfl⟩:=bY r
  exact PySem.P.str_of_int hz ⟨.str _,H,I.tok _,⟨_,rfl⟩,q⟩
 ·obtain⟨u,rfl,t,rfl⟩:=bY r
  exact PySem.P.str_of_str ⟨.str x,H,I,⟨t,rfl⟩,q⟩
end
structure MV (P:Program) (w:World) (K:PySem.W.Frag) (mg:Str->Option Value) (base:Heap) (CX:CXT) (m:Str) (k:Nat) (ps:List Str) (sp:Sp) (C:Addr):Prop where
 cl:Cls K C
 ex:∃f fd,Meth K C m f/\FnOk P w K mg base CX k f fd ps sp/\cj K fd ps []
noncomputable def zK (V:Addr->Prop) (m:Str) (sp:Sp) (E:XK) (ta:TE) (t:TA):TE:=λσ H Q=>ta σ H λx H1=>∃a C dx fs,x=.ref a/\H1 a=some (.ins C dx fs)/\V C/\fs.lookup m=none/\
 t σ H1 λvs H2=>sp (x::vs) H2 Q E
section
variable {X:Cx}{CX:CXT}{k:Nat}{ps:List Str}{sp:Sp}{E:XK}{m:Str}{pos apos:Pos}{e o:Expr}{es:List Expr}{ta:TE}{t:TA}
theorem io {V:Addr->Prop}{pl:Sem Bool} (hV:∀C,V C->MV X.prog X.w X.K X.mg X.base CX m k ps sp C) (he:PE X o ta) (hr:Room k X.A) (hx:dJ CX X E)
  (ht:eval (.Call (.Attribute o m apos) [] [] pos) X.env=(do
   let ov <- eval o X.env
   standAt apos.atName
   let (f,first) <- holding [ov] (getMethod ov m pl)
   callWith pos f first (backTo pos (starEach [] X.env)) (backToKw pos (keywordEach [] X.env))):=by rfl) :
  PE X (.Call (.Attribute o m apos) [] [] pos) (zK V m sp E ta i0):=by
 intro pins s σ H Q I h
 refine PySem.W.methodCall_KW (pl:=pl) (thn (he pins s σ H _ I h) λu s1 ⟨x,H1,I1,rx,a,C,dx,fs,ex,ea,vc,l,q⟩=>?_) ht
 obtain⟨c,f,fd,hm,F,hb⟩:=hV C vc
 subst ex
 obtain rfl:u=Value.ref a:=rx
 refine eR I1 ea c hm l ?_
 exact PySem.W.callWith_K0 (first:=[.ref a]) I1.kIn hm.kp (ig (us:=[.ref a]) (vs:=[.ref a]) (dvs:=[]) F hr hb .nil hx I1 (.cons rfl .nil) q)
end
section
variable {X:Cx}{T:String}{name:Str}{id:String}{r:V->List V->Hp->VK->Prop}{o e:Expr}{es:List Expr}{to:TE}{t:TA}{apos cpos:Pos}
theorem Ay {K:W.Frag} (hK:X.K=K) (pa:PlainAttrs T) (slot:Slot T name id) (hty:typeOf (.builtin id)=pure (.type "method_descriptor")) (hm:MtR X id r) (ho:PE X o to) (ha:PA X (e::es) t)
  (hbase:attributeBase o name X.env (eval o X.env)=eval o X.env:=by rfl)
  (hfew:((backTo cpos (starEach (e::es) X.env)).all (λx=>!x.1) && (backToKw cpos (keywordEach [] X.env)).all (λx=>x.1.isSome)
   && decide ((e::es).length+([]:List Keyword).length+(if ([]:List Keyword).isEmpty then 0 else 1) < 30))=true:=by rfl)
  (hline:(apos.endLine == cpos.line)=true:=by rfl) (hs:starEach (e::es) X.env=(false,eval e X.env)::starEach es X.env:=by rfl) (hplain:(backTo cpos (starEach es X.env)).any (·.1)=false:=by rfl) :
  PE X (.Call (.Attribute o name apos) (e::es) [] cpos) (tBM K T r to t):=by
 subst hK
 exact cK pa slot hty hm ho ha hbase hfew hline hs hplain
end
noncomputable def rIs (K:PySem.W.Frag):List V->Hp->VK->Prop:=λxs H Q=>∃x n t b,xs=[x,.ty n]/\TyOf K H x t/\PySem.W.kitOne K t (.type n)=some b/\Q (.bl b) H
theorem FnOk.ex {P:Program}{w:World}{K:W.Frag}{mg:Str->Option Value}{base:Heap}{CX:CXT}{k:Nat}{f:Addr}{fd:FuncData}{ps:List Str}{sp:Nat->Sp}{N:Nat} (h:∀n,n<=N->FnOk P w K mg base CX k f fd ps (sp n)):FnOk P w K mg base CX k f fd ps (λvs H Q E=>∃n,n<=N/\sp n vs H Q E):=
 ⟨λvs H Q E ⟨n,hn,q⟩=>(h n hn).len vs H Q E q,λA outer s H args us vs Q E hr he hb hv ⟨n,hn,q⟩=>(h n hn).run A outer s H args us vs Q E hr he hb hv q⟩
theorem FnOk.no {P:Program}{w:World}{K:W.Frag}{mg:Str->Option Value}{base:Heap}{CX:CXT}{k:Nat}{f:Addr}{fd:FuncData}{ps:List Str}{sp:Sp} (h:∀vs H Q E,¬sp vs H Q E):FnOk P w K mg base CX k f fd ps sp:=
 ⟨λvs H Q E q=>absurd q (h vs H Q E),λA outer s H args us vs Q E hr he hb hv q=>absurd q (h vs H Q E)⟩
structure CMc (P:Program) (w:World) (K:PySem.W.Frag) (mg:Str->Option Value) (base:Heap) (cn m:Str) (k:Nat) (ps:List Str) (sp:Sp) (C f:Addr) (fd:FuncData) (mc:Value):Prop where
 nm:mg cn=some (.ref C)
 h1:PySem.W.specialIn K (.ref C) "__getattribute__" = some (some (.builtin "type.__getattribute__"))
 h2:PySem.W.readsIn K C mc=true
 h3:PySem.W.findCls K (.ref C) mc m=some (.val (.ref f))
 ok:FnOk P w K mg base CX0 k f fd ps sp
 kp:PySem.W.keepIn K (.ref f)=true
 bd:cj K fd ps []
theorem wA {K:W.Frag}{a D:Addr}{xs:List V}{σ:St}{sub:List Nat}{tt:TT}{te:TE}{Q:VK}{H:Hp} (Pv:Nat->List V->Hp->Prop) (h0:Pv 0 [] (upd H D (.lst []))) (hl:∀i ys H,i<=xs.length->Pv i ys H->SqT K H a xs)
  (hs:∀i x ys H,xs[i]?=some x->Pv i ys H->tt (some x::bJ sub σ) H λb H4=>if b=true then te (some x::bJ sub σ) H4 λy H5=>H5 D=some (.lst ys)/\ys.length < sizeLine/\Pv (i+1) (ys++[y]) (upd H5 D (.lst (ys++[y]))) else Pv (i+1) ys H4)
  (hd:∀ys H,Pv xs.length ys H->Q (.ref D) H) :
  ∃W:Nat->Nat->List V->Hp->Prop,(∃m,W 0 m [] (upd H D (.lst [])))/\∀i m ys H2,W i m ys H2->
   ((Itt K a).stop i H2/\Q (.ref D) H2)\/((Itt K a).go i H2/\∃N:List V->Hp->Prop,(∀ys' H',N ys' H'->∃m',m' < m/\W (i+1) m' ys' H')/\∀v H3,(Itt K a).yld i H2 v H3->tt (some v::bJ sub σ) H3 λb H4=>if b=true then
    te (some v::bJ sub σ) H4 λy H5=>H5 D=some (.lst ys)/\ys.length < sizeLine/\N (ys++[y]) (upd H5 D (.lst (ys++[y])))
    else N ys H4):=by
 refine⟨λi m ys H=>m=xs.length - i/\i<=xs.length/\Pv i ys H,⟨xs.length,rfl,Nat.zero_le _,h0⟩,?_⟩
 rintro i m ys H ⟨rfl,hi,p⟩
 have q:=hl i ys H hi p
 by_cases hlt:i < xs.length
 ·refine .inr ⟨⟨xs,xs[i],q,by simp [hlt]⟩,Pv (i+1),λys' H' p'=>⟨xs.length - (i+1),by omega,rfl,hlt,p'⟩,λx H' y=>?_⟩
  obtain⟨e,y⟩:=y
  subst e
  exact hs i x ys _ (y xs q) p
 ·have e:i=xs.length:=by omega
  subst e
  exact .inl ⟨⟨xs,q,Nat.le_refl _⟩,hd ys H p⟩
theorem qq {K:W.Frag}{ta:Addr}{xs:List V}{sub:List Nat}{te:TE}{σ:St}{Q:VK}{H:Hp} (g:V->V) (hn:xs.length < 1000) (ha:H ta=some (.tup xs)) (hte:∀(x:V) (H2:Hp) (R:VK),x∈xs->(∀b o,H b=some o->H2 b=some o)->R (g x) H2->te (some x::bJ sub σ) H2 R)
  (hq:∀(D:Addr),H D=none->Q (.ref D) (upd H D (.lst (xs.map g)))):fW (Itt K ta) sub (λ_ H Q=>Q true H) te σ Q H:=by
 intro D nD
 have nl:ta≠D:=ai ha nD
 refine wA (K:=K) (a:=ta) (xs:=xs) (sub:=sub) (tt:=λ_ H Q=>Q true H) (te:=te) (Q:=Q) (σ:=σ) (λi ys H2=>ys=(xs.take i).map g/\H2=upd H D (.lst ys)) ⟨by rw [List.take_zero];rfl,rfl⟩ (λi ys H2 _ hh=>?_) (λi x ys H2 hi hh=>?_) λys H2 hh=>?_
 ·obtain⟨_,rfl⟩:=hh
  exact SqT.of (by rw [ah nl];exact ha)
 ·obtain⟨rfl,rfl⟩:=hh
  refine bB (hte x _ _ (List.mem_of_getElem? hi) (λb o e=>by rw [ah (ai e nD)];exact e) ⟨aj,?_,?_,bv⟩)
  ·rw [List.length_map,List.length_take];exact bj ‹1›
  ·rw [List.take_add_one,hi,List.map_append];rfl
 ·obtain⟨rfl,rfl⟩:=hh
  rw [List.take_length]
  exact hq D nD
end L2
namespace Mine
open PySem L2
variable {P:Program}{w:World}{K:W.Frag}{mg:Str->Option Value}{base:Heap}
open PySem.W PySem.W.KIN PySem.NumText
noncomputable abbrev si (i:Int):Str:=Str.ofString (toString i)
theorem j7 (m:Nat):AllDigits ((Nat.toDigits 10 m).map Char.toNat):=λc hc=>by
 obtain⟨ch,hch,e⟩:=List.mem_map.mp hc
 rw [<- e]
 exact PyProof.Rows.digit_range (Nat.isDigit_of_mem_toDigits (by decide) (by decide) hch)
theorem qo (m:Nat):(Nat.toDigits 10 m).map Char.toNat≠[]:=λe=>by
 have h:=Nat.length_toDigits_pos (b:=10) (n:=m)
 rw [List.map_eq_nil_iff.mp e]at h
 exact absurd h (by decide)
theorem rj {m:Nat} (h:m < 10 ^ 10):((Nat.toDigits 10 m).map Char.toNat).length<=10:=by
 have:=KT.len_num (n:=(m:Int)) ‹1› ‹1›
 rw [cL,fw]at this
 exact this
theorem B6 {c:Nat} (h:48<=c/\c<=57):inZ gU c=true:=by
 rcases (show c=48\/c=49\/c=50\/c=51\/c=52\/c=53\/c=54\/c=55\/c=56\/c=57 by omega) with rfl | rfl | rfl | rfl | rfl | rfl | rfl | rfl | rfl | rfl <;> decide +kernel
theorem lX {z:Int} (h0 : -1000000000<=z) (h1:z<=1000000000):figs (si z)=(Nat.toDigits 10 z.natAbs).map Char.toNat/\bU (si z)=z/\((si z).cps.toList=(Nat.toDigits 10 z.natAbs).map Char.toNat\/(si z).cps.toList=45::(Nat.toDigits 10 z.natAbs).map Char.toNat):=by
 by_cases hz:0<=z
 ·obtain⟨m,rfl⟩:=Int.eq_ofNat_of_zero_le hz
  have e:=fw m
  have hn:jI (si (m:Int))=false:=by
   unfold jI
   rw [e]
   cases hd:(Nat.toDigits 10 m).map Char.toNat with
   | nil=>exact absurd hd (qo m)
   | cons c r=>
    have:=j7 m c (by rw [hd];exact List.mem_cons_self)
    refine decide_eq_false λz=>?_
    have:c=45:=Option.some.inj z
    omega
  have ef:figs (si (m:Int))=(Nat.toDigits 10 m).map Char.toNat:=by unfold figs;rw [hn,<- e];rfl
  refine⟨ef,?_,.inl e⟩
  unfold bU
  rw [hn,ef,val_back]
  rfl
 ·obtain⟨m,rfl⟩:∃m:Nat,z = -(m:Int):=⟨z.natAbs,by omega⟩
  have hm:0 < m:=by omega
  have e:=gb m hm
  have hn:jI (si (-(m:Int)))=true:=by
   unfold jI
   rw [e]
   rfl
  have ea:(-(m:Int)).natAbs=m:=by omega
  have ef:figs (si (-(m:Int)))=(Nat.toDigits 10 m).map Char.toNat:=by unfold figs;rw [hn,e];rfl
  rw [ea]
  refine⟨ef,?_,.inr e⟩
  unfold bU
  rw [hn,ef,val_back]
  rfl
theorem xi {z:Int} (h0 : -1000000000<=z) (h1:z<=1000000000):fU (si z)=true:=by
 obtain⟨ef,_,_⟩:=lX h0 h1
 have hl:=rj (m:=z.natAbs) ‹1›
 have hp:=List.length_pos_iff.mpr (qo z.natAbs)
 unfold fU cJ
 rw [jS,ef,decide_eq_true ‹1›,decide_eq_true ‹1›,Bool.true_and,Bool.true_and]
 show ((figs (si z)).toArray.toList.all (inZ gU))=true
 rw [List.toList_toArray,ef]
 exact List.all_eq_true.mpr λc hc=>B6 (j7 _ c hc)
theorem da {z lo hi:Int} (h0 : -1000000000<=z) (h1:z<=1000000000) (h2:lo<=z) (h3:z<=hi):gL (si z) lo hi=.int z:=by
 obtain⟨_,ev,_⟩:=lX h0 h1
 unfold gL
 rw [ev,if_pos ⟨⟨xi h0 h1,rfl⟩,h2,h3⟩]
def Sgn (c:Nat):Prop:=c=44\/c=45\/(48<=c/\c<=57)\/(97<=c/\c<=122)
structure Wd (w:Str):Prop where
 lo:1<=w.length
 hi:w.length<=79
 sg:∀c∈w.cps.toList,Sgn c
theorem cQ {z:Int} (h0 : -1000000000<=z) (h1:z<=1000000000):Wd (si z):=by
 obtain⟨_,_,e⟩:=lX h0 h1
 have hl:=rj (m:=z.natAbs) ‹1›
 have hp:=List.length_pos_iff.mpr (qo z.natAbs)
 rcases e with e | e
 ·refine⟨by rw [cL,e];omega,by rw [cL,e];omega,λc hc=>?_⟩
  rw [e]at hc
  exact .inr (.inr (.inl (j7 _ c hc)))
 ·refine⟨by rw [cL,e,List.length_cons];omega,by rw [cL,e,List.length_cons];omega,λc hc=>?_⟩
  rw [e]at hc
  rcases List.mem_cons.mp hc with z | hc
  ·exact .inr (.inl z)
  ·exact .inr (.inr (.inl (j7 _ c hc)))
theorem AN:∀c∈dk.cps.toList,97<=c/\c<=122:=‹0›
theorem jH {k:Str} (h:cJ k dk 8=true):1<=k.length/\k.length<=8/\∀c∈k.cps.toList,97<=c/\c<=122:=by
 unfold cJ at h
 rw [Bool.and_eq_true,Bool.and_eq_true]at h
 obtain⟨h1,h2,h3⟩:=h
 have h1:=of_decide_eq_true h1
 have h2:=of_decide_eq_true h2
 exact⟨by omega,by omega,λc hc=>AN c (of_decide_eq_true (List.all_eq_true.mp h3 c hc))⟩
theorem kY {k:Str} (h:cJ k dk 8=true):Wd k:=by
 obtain⟨h1,h2,h3⟩:=jH h
 exact⟨h1,by omega,λc hc=>.inr (.inr (.inr (h3 c hc)))⟩
theorem Wd.free {w:Str} (h:Wd w):32∉w.cps.toList:=λz=>by
 have:=h.sg _ z
 unfold Sgn at this
 omega
noncomputable def fl (c:Nat) (ws:List Str):List Nat:=(ws.map λw=>c::w.cps.toList).flatten
theorem jQ (c:Nat) (us vs:List Str):fl c (us++vs)=fl c us++fl c vs:=by
 unfold fl
 rw [List.map_append,List.flatten_append]
theorem eS (c:Nat) (u:Str) (vs:List Str):fl c (u::vs)=(c::u.cps.toList)++fl c vs:=rfl
theorem mK {α:Type} (c:Nat) (g:α->List Str):∀xs:List α,fl c (xs.flatMap g)=xs.flatMap λx=>fl c (g x)
 | []=>rfl
 | x::xs=>by rw [List.flatMap_cons,List.flatMap_cons,jQ,mK c g xs]
theorem mE {c:Nat}:∀{ws:List Str},ws≠[]->c::(Txt.join ⟨#[c]⟩ ws).cps.toList=fl c ws
 | [],h=>absurd rfl h
 | [x],_=>by
  rw [eS]
  show c::x.cps.toList=(c::x.cps.toList)++[]
  rw [List.append_nil]
 | x::y::zs,_=>by
  have e:Txt.join ⟨#[c]⟩ (x::y::zs)=Str.join ⟨#[c]⟩ (x::y::zs):=StrLaws.glued_eq_join _ _
  have e2:Txt.join ⟨#[c]⟩ (y::zs)=Str.join ⟨#[c]⟩ (y::zs):=StrLaws.glued_eq_join _ _
  have ih:=mE (c:=c) (ws:=y::zs) (by simp)
  rw [e,fu,eS,<- ih,e2]
  rfl
noncomputable abbrev jn (ws:List Str):Str:=Txt.join ‹" "› ws
noncomputable abbrev jc (ws:List Str):Str:=Txt.join ‹","› ws
theorem r8 {ws:List Str} (h:ws≠[]):32::(jn ws).cps.toList=fl 32 ws:=by
 have:=mE (c:=32) h
 rw [<- mZ]at this
 exact this
theorem BX {ws:List Str} (h:ws≠[]):44::(jc ws).cps.toList=fl 44 ws:=by
 have:=mE (c:=44) h
 rw [<- oN]at this
 exact this
theorem BW {us vs:List Str} (hu:us≠[]) (hv:vs≠[]) (h:fl 32 us=fl 32 vs):jn us=jn vs:=by
 rw [<- r8 hu,<- r8 hv]at h
 exact dc (List.cons.inj h).2
theorem C8 {ws:List Str} (h:ws≠[]):fl 32 [jn ws]=fl 32 ws:=by
 rw [eS,<- r8 h]
 exact List.append_nil _
theorem ql (c m:Nat):∀ws:List Str,(∀w∈ws,w.length<=m)->(fl c ws).length<=(m+1) * ws.length
 | [],_=>by rw [List.length_nil];exact Nat.zero_le _
 | w::ws,h=>by
  have:=ql c m ws λx hx=>h x (List.mem_cons_of_mem _ hx)
  have h1:=h w List.mem_cons_self
  rw [cL]at h1
  rw [eS,List.length_append,List.length_cons,List.length_cons,Nat.mul_succ]
  omega
theorem zi {ks:List Str} (h1:1<=ks.length) (h8:ks.length<=8) (hk:∀k∈ks,cJ k dk 8=true):Wd (jc ks):=by
 have hne:ks≠[]:=λz=>by rw [z]at h1;cases h1
 have e:=BX hne
 have hl:=ql 44 8 ks λw hw=>(jH (hk w hw)).2.1
 rw [<- e,List.length_cons]at hl
 refine⟨?_,by rw [cL];omega,λc hc=>?_⟩
 ·cases ks with
  | nil=>exact absurd rfl hne
  | cons k r=>
   have h0:=(jH (hk k List.mem_cons_self)).1
   have:=congrArg List.length e
   rw [eS,List.length_cons,List.length_append,List.length_cons,<- cL,<- cL]at this
   omega
 ·have:c∈fl 44 ks:=by rw [<- e];exact List.mem_cons_of_mem _ hc
  unfold fl at this
  obtain⟨l,hl,hc⟩:=List.mem_flatten.mp this
  obtain⟨k,hk',rfl⟩:=List.mem_map.mp hl
  rcases List.mem_cons.mp hc with z | hc
  ·exact .inl z
  ·exact .inr (.inr (.inr ((jH (hk k hk')).2.2 c hc)))
theorem lM (m:Nat):∀ws:List Str,(∀w∈ws,w.length<=m)->(ws.map (·.length)).sum<=m * ws.length
 | [],_=>Nat.zero_le _
 | w::ws,h=>by
  have:=lM m ws λx hx=>h x (List.mem_cons_of_mem _ hx)
  have h1:=h w List.mem_cons_self
  rw [List.map_cons,List.sum_cons,List.length_cons,Nat.mul_succ]
  omega
theorem mF {ws:List Str} (h:∀w∈ws,w.length<=15000) (hl:ws.length<=1000):(ws.map (·.length)).sum+ws.length * ‹" "›.length<=16777216:=by
 have:=lM 15000 ws h
 rw [show ‹" "›.length=1 from ‹0›,Nat.mul_one]
 omega
theorem vY {ws:List Str}{m:Nat} (h:∀w∈ws,w.length<=m):(jn ws).length<=(m+1) * ws.length:=by
 cases ws with
 | nil=>exact Nat.le_trans (Nat.le_of_eq (show (jn []).length=0 from ‹0›)) (Nat.zero_le _)
 | cons w r=>
  have e:=congrArg List.length (r8 (ws:=w::r) (by simp))
  have hl:=ql 32 m (w::r) h
  rw [List.length_cons]at e
  rw [cL]
  omega
noncomputable def onF (acc ks:List Str):List Str:=ks.foldl (λacc k=>if k∈acc then acc else acc++[k]) acc
theorem nO (acc ks:List Str) (k:Str):onF acc (ks++[k])=if k∈onF acc ks then onF acc ks else onF acc ks++[k]:=by
 unfold onF
 rw [List.foldl_append]
 rfl
theorem mw {x:Str}:∀{ks acc:List Str},x∈onF acc ks↔x∈acc\/x∈ks
 | [],acc=>by
  show x∈acc↔_
  simp
 | k::ks,acc=>by
  show x∈onF (if k∈acc then acc else acc++[k]) ks↔_
  rw [mw]
  by_cases h:k∈acc
  ·rw [if_pos h,List.mem_cons]
   constructor
   ·rintro(a | a)
    ·exact .inl a
    ·exact .inr (.inr a)
   ·rintro(a | a | a)
    ·exact .inl a
    ·exact .inl (by rw [a];exact h)
    ·exact .inr a
  ·rw [if_neg h,List.mem_append,List.mem_singleton,List.mem_cons,or_assoc]
theorem jD {x:Str}{ks:List Str}:x∈aN ks↔x∈ks:=by
 rw [show aN ks=onF [] ks from rfl,mw]
 simp
theorem nQ (acc:List Str):∀(n:Nat) (ks:List Str),ks.length=n->onF acc (aN ks)=onF acc ks
 | 0,ks,h=>by rw [List.length_eq_zero_iff.mp h];rfl
 | n+1,ks,h=>by
  obtain⟨xs,x,rfl⟩:∃xs x,ks=xs++[x]:=⟨ks.dropLast,ks.getLast (by intro z;rw [z]at h;cases h),(List.dropLast_concat_getLast _).symm⟩
  rw [List.length_append,List.length_singleton]at h
  have ih:=nQ acc n xs ‹1›
  rw [dY,nO]
  by_cases z:x∈aN xs
  ·rw [if_pos z,ih,if_pos (mw.mpr (.inr (jD.mp z)))]
  ·rw [if_neg z,nO,ih]
theorem nR {α:Type} (g:α->List Str):∀(xs:List α) (acc:List Str),onF acc (xs.flatMap λx=>aN (g x))=onF acc (xs.flatMap g)
 | [],_=>rfl
 | x::xs,acc=>by
  have ap:∀a b c:List Str,onF a (b++c)=onF (onF a b) c:=λa b c=>by unfold onF;rw [List.foldl_append]
  rw [List.flatMap_cons,List.flatMap_cons,ap,ap,nQ _ _ _ rfl,nR g xs]
theorem sj {α:Type} (g:α->List Str) (xs:List α):aN (xs.flatMap λx=>aN (g x))=aN (xs.flatMap g):=nR g xs []
inductive Lf
 | num (z:Int) | val (k:Str) (d:Int) | gth (w:Str) (ks:List Str) (f l:Int) | snc (k:Str) (b f l:Int) | prt (a b:Str) (f l:Int) | chg (r:Int) (k:Str) (f l:Int)
inductive Nd
 | leaf (l:Lf) | brk (w:Str) (xs:List Nd)
noncomputable def aP:Lf->List Str
 | .num z=>[‹"number"›, si z]
 | .val k d=>[‹"value"›, k,si d]
 | .gth w ks f l=>[w,jc ks,si f,si l]
 | .snc k b f l=>[‹"since"›, k,si b,si f,si l]
 | .prt a b f l=>[‹"part"›, a,b,si f,si l]
 | .chg r k f l=>[‹"change"›, si r,k,si f,si l]
noncomputable def bO:Lf->List Str
 | .num _=>[]
 | .val k _=>[k]
 | .gth _ ks _ _=>ks
 | .snc k _ _ _=>[k]
 | .prt a b _ _=>[a,b]
 | .chg _ k _ _=>[k]
def kI (f l:Int):Prop:=0<=f/\f<=l/\l<=399
def Big (z:Int):Prop:=-1000000000<=z/\z<=1000000000
def iM (k:Str):Prop:=cJ k dk 8=true
noncomputable def dL:Lf->Prop
 | .num z=>Big z
 | .val k d=>iM k/\0<=d/\d<=399
 | .gth w ks f l=>w∈eQ/\(1<=ks.length/\ks.length<=8/\ks.Nodup/\∀k∈ks,iM k)/\kI f l
 | .snc k b f l=>iM k/\Big b/\kI f l
 | .prt a b f l=>iM a/\iM b/\kI f l
 | .chg r k f l=>(1<=r/\r<=400)/\iM k/\kI f l
noncomputable abbrev opS:Str:=‹"("›
noncomputable abbrev clS:Str:=‹")"›
noncomputable def aW:Nat->Nd->List Str
 | 0,.leaf l=>aP l
 | 0,.brk _ _=>[]
 | _+1,.leaf l=>aP l
 | n+1,.brk w xs=>w::xs.flatMap λc=>opS::(aW n c++[clS])
noncomputable def dD:Nat->Nd->List Str
 | 0,.leaf l=>bO l
 | 0,.brk _ _=>[]
 | _+1,.leaf l=>bO l
 | n+1,.brk w xs=>xs.flatMap (dD n)
noncomputable def wY (ns:List Int):Int:=ns.foldl (λa b=>if b > a then b else a) 0
noncomputable def dG:Nat->Nd->Int
 | 0,_=>0
 | _+1,.leaf _=>0
 | n+1,.brk _ xs=>1+wY (xs.map (dG n))
noncomputable def hJ:Nat->Nd->Prop
 | 0,.leaf l=>dL l
 | 0,.brk _ _=>False
 | _+1,.leaf l=>dL l
 | n+1,.brk w xs=>((w∈eW/\xs.length=2)\/(w∈fO/\xs.length=4))/\∀x∈xs,hJ n x
theorem gz (n:Nat) (l:Lf):aW n (.leaf l)=aP l:=by cases n <;> rfl
theorem yl (n:Nat) (l:Lf):dD n (.leaf l)=bO l:=by cases n <;> rfl
theorem yt (n:Nat) (l:Lf):dG n (.leaf l)=0:=by cases n <;> rfl
theorem qW {n:Nat}{l:Lf} (h:hJ n (.leaf l)):dL l:=by cases n <;> exact h
theorem B0:∀w∈eQ,1<=w.length/\w.length<=79/\∀c∈w.cps.toList,97<=c/\c<=122:=‹0›
theorem Am:∀w∈eW,1<=w.length/\w.length<=79/\∀c∈w.cps.toList,97<=c/\c<=122:=‹0›
theorem Be:∀w∈fO,1<=w.length/\w.length<=79/\∀c∈w.cps.toList,97<=c/\c<=122:=‹0›
theorem js:∀w∈iJ,1<=w.length/\w.length<=79/\∀c∈w.cps.toList,97<=c/\c<=122:=‹0›
theorem iC {w:Str} (h:1<=w.length/\w.length<=79/\∀c∈w.cps.toList,97<=c/\c<=122):Wd w:=⟨h.1,h.2.1,λc hc=>.inr (.inr (.inr (h.2.2 c hc)))⟩
theorem eV {P:Str->Prop}:∀w∈([]:List Str),P w:=λ_ h=>nomatch h
theorem all_cons {P:Str->Prop}{x:Str}{xs:List Str} (h:P x) (t:∀w∈xs,P w):∀w∈x::xs,P w:=λw hw=>(List.mem_cons.mp hw).elim (λe=>e ▸ h) (t w)
theorem dQ {f l:Int} (h:kI f l):Wd (si f)/\Wd (si l):=by
 obtain⟨h1,h2,h3⟩:=h
 exact⟨cQ ‹1› ‹1›,cQ ‹1› ‹1›⟩
theorem qZ:∀{l:Lf},dL l->∀w∈aP l,Wd w
 | .num z,h=>all_cons (iC (js _ ‹0›)) (all_cons (cQ h.1 h.2) eV)
 | .val k d,⟨h1,h2,h3⟩=>all_cons (iC (js _ ‹0›)) (all_cons (kY h1) (all_cons (cQ ‹1› ‹1›) eV))
 | .gth w ks f l,⟨h1,⟨h2,h3,_,h4⟩,h5⟩=>all_cons (iC (B0 _ h1)) (all_cons (zi h2 h3 h4) (all_cons (dQ h5).1 (all_cons (dQ h5).2 eV)))
 | .snc k b f l,⟨h1,h2,h5⟩=>all_cons (iC (js _ ‹0›)) (all_cons (kY h1) (all_cons (cQ h2.1 h2.2) (all_cons (dQ h5).1 (all_cons (dQ h5).2 eV))))
 | .prt a b f l,⟨h1,h2,h5⟩=>all_cons (iC (js _ ‹0›)) (all_cons (kY h1) (all_cons (kY h2) (all_cons (dQ h5).1 (all_cons (dQ h5).2 eV))))
 | .chg r k f l,⟨h1,h2,h5⟩=>all_cons (iC (js _ ‹0›)) (all_cons (cQ ‹1› ‹1›) (all_cons (kY h2) (all_cons (dQ h5).1 (all_cons (dQ h5).2 eV))))
theorem iq (l:Lf):2<=(aP l).length/\(aP l).length<=5:=by cases l <;> exact⟨Nat.le_of_ble_eq_true rfl,Nat.le_of_ble_eq_true rfl⟩
def WdB (w:Str):Prop:=Wd w\/w=opS\/w=clS
theorem WdB.len {w:Str} (h:WdB w):w.length<=79:=by
 rcases h with h | rfl | rfl
 ·exact h.hi
 ·exact ‹0›
 ·exact ‹0›
theorem WdB.free {w:Str} (h:WdB w):32∉w.cps.toList:=by
 rcases h with h | rfl | rfl
 ·exact h.free
 ·exact ‹0›
 ·exact ‹0›
theorem wL {w:Str}{m:Nat} (h:(w∈eW/\m=2)\/(w∈fO/\m=4)):Wd w:=by
 rcases h with⟨h,_⟩ | ⟨h,_⟩
 ·exact iC (Am _ h)
 ·exact iC (Be _ h)
theorem jb:∀{n:Nat}{nd:Nd},hJ n nd->∀w∈aW n nd,WdB w
 | 0,.leaf l,h=>λw hw=>.inl (qZ (show dL l from h) w hw)
 | 0,.brk _ _,h=>(show False from h).elim
 | n+1,.leaf l,h=>λw hw=>.inl (qZ (show dL l from h) w hw)
 | n+1,.brk w xs,h=>λv hv=>by
  obtain⟨h1,h2⟩:_/\_:=h
  rcases List.mem_cons.mp hv with z | hv
  ·rw [z];exact .inl (wL h1)
  ·obtain⟨c,hc,hv⟩:=List.mem_flatMap.mp hv
   rcases List.mem_cons.mp hv with z | hv
   ·exact .inr (.inl z)
   ·rcases List.mem_append.mp hv with hv | hv
    ·exact jb (h2 c hc) v hv
    ·exact .inr (.inr (List.mem_singleton.mp hv))
theorem mV (n:Nat):∀{nd:Nd},hJ n nd->aW n nd≠[]:=by
 intro nd h z
 cases nd with
 | leaf l=>
  rw [gz]at z
  have:=(iq l).1
  rw [z]at this
  exact absurd this (by decide)
 | brk w xs=>
  cases n with
  | zero=>exact h
  | succ n=>exact absurd z (by unfold aW;simp)
noncomputable def Wn:Nat->Nat
 | 0=>5
 | n+1=>4 * (Wn n+2)+1
theorem dE {α:Type}{g:α->List Str}{m:Nat}:∀xs:List α,(∀x∈xs,(g x).length<=m)->(xs.flatMap g).length<=m * xs.length
 | [],_=>Nat.zero_le _
 | x::xs,h=>by
  have:=dE xs λy hy=>h y (List.mem_cons_of_mem _ hy)
  have h1:=h x List.mem_cons_self
  rw [List.flatMap_cons,List.length_append,List.length_cons,Nat.mul_succ]
  omega
theorem zA:∀n,5<=Wn n
 | 0=>Nat.le_refl _
 | n+1=>by have:=zA n;show 5<=4 * (Wn n+2)+1;omega
theorem j9 {w:Str}{m:Nat} (h:(w∈eW/\m=2)\/(w∈fO/\m=4)):2<=m/\m<=4:=by
 rcases h with⟨_,h⟩ | ⟨_,h⟩ <;> omega
theorem hX:∀{n:Nat}{nd:Nd},hJ n nd->(aW n nd).length<=Wn n
 | 0,.leaf l,_=>(iq l).2
 | 0,.brk _ _,h=>(show False from h).elim
 | n+1,.leaf l,_=>Nat.le_trans (iq l).2 (zA _)
 | n+1,.brk w xs,h=>by
  obtain⟨h1,h2⟩:_/\_:=h
  have hl:=j9 h1
  have:=dE (g:=λc=>opS::(aW n c++[clS])) (m:=Wn n+2) xs λc hc=>by
   have:=hX (h2 c hc)
   rw [List.length_cons,List.length_append,List.length_singleton]
   omega
  show (w::xs.flatMap _).length<=4 * (Wn n+2)+1
  rw [List.length_cons]
  have h4:(Wn n+2) * xs.length<=(Wn n+2) * 4:=Nat.mul_le_mul_left _ hl.2
  omega
theorem Cd {n:Nat} (h:n<=3):Wn n<=509:=by
 rcases (show n=0\/n=1\/n=2\/n=3 by omega) with rfl | rfl | rfl | rfl <;> decide
noncomputable def Kn:Nat->Nat
 | 0=>8
 | n+1=>4 * Kn n
theorem zE:∀n,8<=Kn n
 | 0=>Nat.le_refl _
 | n+1=>by have:=zE n;show 8<=4 * Kn n;omega
theorem mC:∀{l:Lf},dL l->(bO l).length<=8
 | .num _,_=>Nat.le_of_ble_eq_true rfl
 | .val _ _,_=>Nat.le_of_ble_eq_true rfl
 | .gth _ _ _ _,h=>h.2.1.2.1
 | .snc _ _ _ _,_=>Nat.le_of_ble_eq_true rfl
 | .prt _ _ _ _,_=>Nat.le_of_ble_eq_true rfl
 | .chg _ _ _ _,_=>Nat.le_of_ble_eq_true rfl
theorem gP:∀{n:Nat}{nd:Nd},hJ n nd->(dD n nd).length<=Kn n
 | 0,.leaf l,h=>mC (show dL l from h)
 | 0,.brk _ _,h=>(show False from h).elim
 | n+1,.leaf l,h=>Nat.le_trans (mC (show dL l from h)) (zE _)
 | n+1,.brk w xs,h=>by
  obtain⟨h1,h2⟩:_/\_:=h
  have hl:=j9 h1
  have:=dE (g:=dD n) (m:=Kn n) xs λc hc=>gP (h2 c hc)
  show (xs.flatMap _).length<=4 * Kn n
  have h4:Kn n * xs.length<=Kn n * 4:=Nat.mul_le_mul_left _ hl.2
  omega
theorem Cg {n:Nat} (h:n<=3):Kn n<=512:=by
 rcases (show n=0\/n=1\/n=2\/n=3 by omega) with rfl | rfl | rfl | rfl <;> decide
def At (ws:List Str) (pl:Nat) (vs:List Str):Prop:=vs <+: ws.drop pl
theorem At.hd {ws vs:List Str}{pl:Nat}{v:Str} (h:At ws pl (v::vs)):ws[pl]?=some v:=by
 obtain⟨t,e⟩:=h
 have:(ws.drop pl)[0]?=some v:=by rw [<- e];rfl
 rw [List.getElem?_drop]at this
 exact this
theorem At.app {ws us vs:List Str}{pl:Nat} (h:At ws pl (us++vs)):At ws pl us/\At ws (pl+us.length) vs:=by
 obtain⟨t,e⟩:=h
 refine⟨⟨vs++t,by rw [<- List.append_assoc];exact e⟩,t,?_⟩
 rw [<- List.drop_drop,<- e,List.append_assoc,List.drop_left]
theorem At.tl {ws vs:List Str}{pl:Nat}{v:Str} (h:At ws pl (v::vs)):At ws (pl+1) vs:=(At.app (us:=[v]) h).2
theorem At.all (ws:List Str):At ws 0 ws:=List.prefix_refl _
noncomputable abbrev uI:Stmt:=aU (top 18) 0
noncomputable abbrev uF:Stmt:=aU (top 19) 0
noncomputable abbrev uJ:Stmt:=aU (top 20) 0
noncomputable abbrev uG:Stmt:=aU (top 21) 0
noncomputable abbrev uH:Stmt:=aU (top 22) 0
noncomputable abbrev uK:Stmt:=aU (top 23) 0
noncomputable abbrev ut:Stmt:=aU (top 17) 1
noncomputable abbrev pQ:Stmt:=aU (top 17) 2
noncomputable abbrev pO:Stmt:=aU (top 17) 3
noncomputable def qf3 (tx:Str) (ln:Addr) (d:Int):List (Str × V):=[("written", V.str tx),("names", V.ref ln),("levels", V.int d)]
noncomputable def vT:Lf->List (Str × V)
 | .num z=>[("number", .int z)]
 | .val k d=>[("key", .str k),("day", .int d)]
 | .gth w _ f l=>[("word", .str w),("first", .int f),("last", .int l)]
 | .snc k b f l=>[("key", .str k),("bound", .int b),("first", .int f),("last", .int l)]
 | .prt a b f l=>[("one", .str a),("other", .str b),("first", .int f),("last", .int l)]
 | .chg r k f l=>[("rank", .int r),("key", .str k),("first", .int f),("last", .int l)]
noncomputable def oo (l:Lf) (ln:Addr):List (Str × V):=qf3 (jn (aP l)) ln 0++vT l
theorem q_w (tx:Str) (ln:Addr) (d:Int) (r:List (Str × V)):(qf3 tx ln d++r).lookup ("written" : Str)=some (.str tx):=rfl
theorem q_n (tx:Str) (ln:Addr) (d:Int) (r:List (Str × V)):(qf3 tx ln d++r).lookup ("names" : Str)=some (.ref ln):=by
 show (((("written" : Str),V.str tx)::(("names" : Str),V.ref ln)::_)).lookup _=_
 rw [List.lookup_cons,show (("names" : Str) == ("written" : Str))=false from ‹0›]
 rfl
theorem q_l (tx:Str) (ln:Addr) (d:Int) (r:List (Str × V)):(qf3 tx ln d++r).lookup ("levels" : Str)=some (.int d):=by
 show (((("written" : Str),V.str tx)::(("names" : Str),V.ref ln)::_)).lookup _=_
 rw [List.lookup_cons,show (("levels" : Str) == ("written" : Str))=false from ‹0›,List.lookup_cons,show (("levels" : Str) == ("names" : Str))=false from ‹0›]
 rfl
theorem Ap {m:Str} (hm:m∉cW):∀{fs:List (Str × V)},(∀p∈fs,p.1∈cW)->fs.lookup m=none
 | [],_=>rfl
 | (k,v)::fs,h=>by
  rw [List.lookup_cons,beq_eq_false_iff_ne.mpr (λz:m=k=>hm (by rw [z];exact h (k,v) List.mem_cons_self))]
  exact Ap hm λp hp=>h p (List.mem_cons_of_mem _ hp)
theorem on (l:Lf) (ln:Addr):∀p∈oo l ln,p.1∈cW:=by
 have key:∀{fs:List (Str × V)}{ks:List Str},fs.map (·.1)=ks->(∀k∈ks,k∈cW)->∀p∈fs,p.1∈cW:=λe h p hp=>h _ (by rw [<- e];exact List.mem_map_of_mem hp)
 cases l
 ·exact key (ks:=[‹"written"›, ‹"names"›, ‹"levels"›, ‹"number"›]) rfl ‹0›
 ·exact key (ks:=[‹"written"›, ‹"names"›, ‹"levels"›, ‹"key"›, ‹"day"›]) rfl ‹0›
 ·exact key (ks:=[‹"written"›, ‹"names"›, ‹"levels"›, ‹"word"›, ‹"first"›, ‹"last"›]) rfl ‹0›
 ·exact key (ks:=[‹"written"›, ‹"names"›, ‹"levels"›, ‹"key"›, ‹"bound"›, ‹"first"›, ‹"last"›]) rfl ‹0›
 ·exact key (ks:=[‹"written"›, ‹"names"›, ‹"levels"›, ‹"one"›, ‹"other"›, ‹"first"›, ‹"last"›]) rfl ‹0›
 ·exact key (ks:=[‹"written"›, ‹"names"›, ‹"levels"›, ‹"rank"›, ‹"key"›, ‹"first"›, ‹"last"›]) rfl ‹0›
theorem cm {z:Int} (h0 : -1000000000<=z) (h1:z<=1000000000):z.natAbs.log2 < 1920:=by
 by_cases e:z.natAbs=0
 ·rw [e];decide
 ·exact Nat.lt_trans ((Nat.log2_lt e).mpr (show z.natAbs < 2 ^ 30 by omega)) (by decide)
inductive LfI (K:PySem.W.Frag) (C x dx:Addr) (l:Lf) (H:Hp) (Q:VK):Prop
 | mk (T:QuC K C) (hx:H x=some (.ins C dx [])) (ok:dL l) (q:∀ln H',H ln=none->Ofr x H H'->H' ln=some (.lst ((aN (bO l)).map V.str))->H' x=some (.ins C dx (oo l ln))->Q .non H'):LfI K C x dx l H Q
theorem lc {K:W.Frag}{C x dx p1 p2:Addr}{l:Lf}{H H2:Hp}{Q:VK}{E:XK} (T:QuC K C) (hx:H x=some (.ins C dx [])) (ok:dL l) (g:bh H H2) (e1:H2 p1=some (.lst ((aP l).map V.str))) (e2:SqL K H2 p2 ((bO l).map V.str))
  (q:∀ln H',H ln=none->Ofr x H H'->H' ln=some (.lst ((aN (bO l)).map V.str))->H' x=some (.ins C dx (qf3 (jn (aP l)) ln 0))->Q .non H'):bM K [.ref x,.ref p1,.ref p2,.int 0] H2 Q E:=by
 refine⟨x,C,dx,p1,p2,[],aP l,bO l,0,rfl,T,g _ _ hx,by decide,e1,e2,Nat.le_trans (mC ok) (by decide),mF (λw hw=>Nat.le_trans (qZ ok w hw).hi (by decide)) (Nat.le_trans (iq l).2 (by decide)),λln H' nl o el ex=>?_⟩
 refine q ln H' ?_ (λb u e n=>o _ _ (g _ _ e) n) el ex
 cases e:H ln with
 | none=>rfl
 | some u=>rw [g _ _ e]at nl;cases nl
structure QAt (H:Hp) (x C ln:Addr) (tx:Str) (ks:List Str) (d:Int):Prop where
 ob:∃dx r,H x=some (.ins C dx (qf3 tx ln d++r))/\∀p∈qf3 tx ln d++r,p.1∈cW
 nm:H ln=some (.lst (ks.map V.str))
noncomputable def pb (K:PySem.W.Frag):Sp:=λvs H Q _=>∃(x C ln:Addr) (tx:Str) (ks:List Str) (d:Int),vs=[.ref x]/\QuC K C/\QAt H x C ln tx ks d/\Q (.str tx) H
noncomputable def jm (K:PySem.W.Frag):Sp:=λvs H Q _=>∃(x C ln:Addr) (tx:Str) (ks:List Str) (d:Int),vs=[.ref x]/\QuC K C/\QAt H x C ln tx ks d/\Q (.int d) H
noncomputable def lV (K:PySem.W.Frag):Sp:=λvs H Q _=>∃(x C ln:Addr) (tx:Str) (ks:List Str) (d:Int),vs=[.ref x]/\QuC K C/\QAt H x C ln tx ks d/\∀p,H p=none->Q (.ref p) (upd H p (.lst (ks.map V.str)))
theorem zV:FnScope ["self"] ["self"] (aq ut):=‹2›
theorem xO {f:Addr}{fd:FuncData} (F:Fun K "text" "Question.text" ut f fd)  : FnOk P w K mg base CX0 1 f fd ["self"] (pb K):=by
 refine F.ok (k:=0) zV (λvs H Q E h=>?_) (λcdv A outer s H vs Q E hr h=>?_)
 ·obtain⟨x,C,ln,tx,ks,d,rfl,_⟩:=h
  rfl
 ·obtain⟨x,C,ln,tx,ks,d,rfl,T,⟨⟨dx,r,hx,_⟩,hn⟩,q⟩:=h
  have hu:=aL hr
  refine⟨_,(ao (ay (cb (pv 0) rfl))),?_⟩
  exact⟨_,rfl,x,C,dx,_,_,rfl,hx,T.cl,T.a_written,q_w _ _ _ _,q⟩
theorem um:FnScope ["self"] ["self"] (aq pO):=‹2›
theorem su {f:Addr}{fd:FuncData} (F:Fun K "depth" "Question.depth" pO f fd)  : FnOk P w K mg base CX0 1 f fd ["self"] (jm K):=by
 refine F.ok (k:=0) um (λvs H Q E h=>?_) (λcdv A outer s H vs Q E hr h=>?_)
 ·obtain⟨x,C,ln,tx,ks,d,rfl,_⟩:=h
  rfl
 ·obtain⟨x,C,ln,tx,ks,d,rfl,T,⟨⟨dx,r,hx,_⟩,hn⟩,q⟩:=h
  have hu:=aL hr
  refine⟨_,(ao (ay (cb (pv 0) rfl))),?_⟩
  exact⟨_,rfl,x,C,dx,_,_,rfl,hx,T.cl,T.a_levels,q_l _ _ _ _,q⟩
theorem xA:FnScope ["self"] ["self"] (aq pQ):=‹2›
theorem vJ {f:Addr}{fd:FuncData} (F:Fun K "asked_keys" "Question.asked_keys" pQ f fd) (N:Free mg):FnOk P w K mg base CX0 1 f fd ["self"] (lV K):=by
 refine F.ok (k:=0) xA (λvs H Q E h=>?_) (λcdv A outer s H vs Q E hr h=>?_)
 ·obtain⟨x,C,ln,tx,ks,d,rfl,_⟩:=h
  rfl
 ·obtain⟨x,C,ln,tx,ks,d,rfl,T,⟨⟨dx,r,hx,_⟩,hn⟩,q⟩:=h
  have hu:=aL hr
  refine⟨_,(ao (ay (aQ eU (by rfl) N.list PyProof.Rows.Boot.«list» (aa (cb (pv 0) rfl) ae)))),?_⟩
  exact⟨_,rfl,x,C,dx,_,_,rfl,hx,T.cl,T.a_names,q_n _ _ _ _,ln,_,rfl,.inl (SqL.of hn),λp np=>q p np⟩
noncomputable def u8 (K:PySem.W.Frag):Sp:=λvs H Q _=>∃(x C dx:Addr) (z:Int),vs=[.ref x,.int z]/\LfI K C x dx (.num z) H Q
theorem A2:FnScope ["self", "number"] ["self", "number"] (aq uI):=‹2›
theorem y0 {f f1:Addr}{fd:FuncData} (F:Fun K "__init__" "Number.__init__" uI f fd) (N:Free mg){fd1:FuncData}{CQ:Addr}{mc:Value} (CI:CMc P w K mg base "Question" "__init__" 2 ["self", "words", "keys", "depth"] (bM K) CQ f1 fd1 mc):FnOk P w K mg base CX0 3 f fd ["self", "number"] (u8 K):=by
 refine F.ok (k:=2) A2 (λvs H Q E h=>?_) (λcdv A outer s H vs Q E hr h=>?_)
 ·obtain⟨x,C,dx,z,rfl,_⟩:=h
  rfl
 ·obtain⟨x,C,dx,z,rfl,⟨T,hx,ok,q⟩⟩:=h
  have hu:=aL hr
  refine⟨_,(af (aY (di rfl CI.nm CI.h1 CI.h2 CI.h3 rfl CI.ok (hr.mono (by decide)) CI.kp CI.bd .nil av (aa (pv 0) (aa (aR (aa aB (aa (aQ bg (by rfl) N.str PyProof.Rows.Boot.«str» (aa (pv 1) ae)) ae))) (aa (aR ae) (aa au ae))))))
   (ao (bz (pv 0) (pv 1) rfl))),?_⟩
  have hz:=id ok
  refine ag (aX ⟨_,rfl,_,rfl,_,rfl,cm hz.1 hz.2,by show 2<=sizeLine;decide,λp1 np1=>?_⟩)
  obtain⟨g1,e1⟩:=laid (o:=.lst ((aP (.num z)).map V.str)) np1
  change cF _ _ _ (upd H p1 (.lst ((aP (.num z)).map V.str))) _
  generalize upd H p1 _=H1 at g1 e1 ⊢
  refine⟨by show 0<=sizeLine;decide,λp2 np2=>?_⟩
  obtain⟨g2,e2⟩:=laid (o:=.lst ((bO (.num z)).map V.str)) np2
  dsimp only [cF,tC,i0,List.append_nil,List.cons_append,List.nil_append]
  show bM K [.ref x,.ref p1,.ref p2,.int 0] (upd H1 p2 (.lst ((bO (.num z)).map V.str))) _ _
  refine lc (l:=.num z) T hx ok (g1.trans g2) (g2 _ _ e1) (SqL.of e2) λln H3 nl o3 el ex=>?_
  have nlx:ln≠x:=λz=>by rw [z,hx]at nl;cases nl
  refine⟨_,rfl,_,rfl,x,C,dx,_,rfl,ex,T.cl,T.a_number,(by show 3 < 1000;decide),?_⟩
  exact q ln _ nl (λb o e n=>by rw [ah n];exact o3 _ _ e n) (by rw [ah nlx];exact el) aj
noncomputable def u5 (K:PySem.W.Frag):Sp:=λvs H Q _=>∃(x C dx:Addr) (k:Str) (d:Int),vs=[.ref x,.str k,.int d]/\LfI K C x dx (.val k d) H Q
theorem zZ:FnScope ["self", "key", "day"] ["self", "key", "day"] (aq uF):=‹2›
theorem xX {f f1:Addr}{fd:FuncData} (F:Fun K "__init__" "Value.__init__" uF f fd) (N:Free mg){fd1:FuncData}{CQ:Addr}{mc:Value} (CI:CMc P w K mg base "Question" "__init__" 2 ["self", "words", "keys", "depth"] (bM K) CQ f1 fd1 mc):FnOk P w K mg base CX0 3 f fd ["self", "key", "day"] (u5 K):=by
 refine F.ok (k:=2) zZ (λvs H Q E h=>?_) (λcdv A outer s H vs Q E hr h=>?_)
 ·obtain⟨x,C,dx,k,d,rfl,_⟩:=h
  rfl
 ·obtain⟨x,C,dx,k,d,rfl,⟨T,hx,ok,q⟩⟩:=h
  have hu:=aL hr
  refine⟨_,(af (aY (di rfl CI.nm CI.h1 CI.h2 CI.h3 rfl CI.ok (hr.mono (by decide)) CI.kp CI.bd .nil av (aa (pv 0) (aa (aR (aa aB (aa (pv 1) (aa (aQ bg (by rfl) N.str PyProof.Rows.Boot.«str» (aa (pv 2) ae)) ae)))) (aa (aR (aa (pv 1) ae)) (aa au ae))))))
   (af (bz (pv 0) (pv 1) rfl)
   (ao (bz (pv 0) (pv 2) rfl)))),?_⟩
  obtain⟨_,d0,d1⟩:=id ok
  refine ag (aX ⟨_,rfl,_,rfl,_,rfl,_,rfl,cm ‹1› ‹1›,by show 3<=sizeLine;decide,λp1 np1=>?_⟩)
  obtain⟨g1,e1⟩:=laid (o:=.lst ((aP (.val k d)).map V.str)) np1
  change cF _ _ _ (upd H p1 (.lst ((aP (.val k d)).map V.str))) _
  generalize upd H p1 _=H1 at g1 e1 ⊢
  refine⟨_,rfl,by show 1<=sizeLine;decide,λp2 np2=>?_⟩
  obtain⟨g2,e2⟩:=laid (o:=.lst ((bO (.val k d)).map V.str)) np2
  dsimp only [cF,tC,i0,List.append_nil,List.cons_append,List.nil_append]
  show bM K [.ref x,.ref p1,.ref p2,.int 0] (upd H1 p2 (.lst ((bO (.val k d)).map V.str))) _ _
  refine lc (l:=.val k d) T hx ok (g1.trans g2) (g2 _ _ e1) (SqL.of e2) λln H3 nl o3 el ex=>?_
  have nlx:ln≠x:=λz=>by rw [z,hx]at nl;cases nl
  refine ag ⟨_,rfl,_,rfl,x,C,dx,_,rfl,ex,T.cl,T.a_key,(by show 3 < 1000;decide),?_⟩
  refine⟨_,rfl,_,rfl,x,C,dx,_,rfl,aj,T.cl,T.a_day,(by show 4 < 1000;decide),?_⟩
  rw [bv]
  exact q ln _ nl (λb o e n=>by rw [ah n];exact o3 _ _ e n) (by rw [ah nlx];exact el) aj
noncomputable def lT (K:PySem.W.Frag):Sp:=λvs H Q _=>∃(x C dx:Addr) (gw:Str) (lk:Addr) (f0:Int) (l0:Int) (ks:List Str),vs=[.ref x,.str gw,.ref lk,.int f0,.int l0]/\H lk=some (.lst (ks.map V.str))/\LfI K C x dx (.gth gw ks f0 l0) H Q
theorem A3:FnScope ["self", "word", "keys", "first", "last"] ["self", "word", "keys", "first", "last"] (aq uJ):=‹2›
theorem y6 {f f1:Addr}{fd:FuncData} (F:Fun K "__init__" "Gathering.__init__" uJ f fd) (N:Free mg){fd1:FuncData}{CQ:Addr}{mc:Value} (CI:CMc P w K mg base "Question" "__init__" 2 ["self", "words", "keys", "depth"] (bM K) CQ f1 fd1 mc):FnOk P w K mg base CX0 3 f fd ["self", "word", "keys", "first", "last"] (lT K):=by
 refine F.ok (k:=2) A3 (λvs H Q E h=>?_) (λcdv A outer s H vs Q E hr h=>?_)
 ·obtain⟨x,C,dx,gw,lk,f0,l0,ks,rfl,_⟩:=h
  rfl
 ·obtain⟨x,C,dx,gw,lk,f0,l0,ks,rfl,hlk,⟨T,hx,ok,q⟩⟩:=h
  have hu:=aL hr
  refine⟨_,(af (aY (di rfl CI.nm CI.h1 CI.h2 CI.h3 rfl CI.ok (hr.mono (by decide)) CI.kp CI.bd .nil av (aa (pv 0) (aa (aR (aa (pv 1) (aa (cK PySem.F.plainAttrs_str PySem.F.slot_str_join PySem.F.type_str_join gN aB (aa (pv 2) ae)) (aa (aQ bg (by rfl) N.str PyProof.Rows.Boot.«str» (aa (pv 3) ae)) (aa (aQ bg (by rfl) N.str PyProof.Rows.Boot.«str» (aa (pv 4) ae)) ae))))) (aa (pv 2) (aa au ae))))))
   (af (bz (pv 0) (pv 1) rfl)
   (af (bz (pv 0) (pv 3) rfl)
   (ao (bz (pv 0) (pv 4) rfl))))),?_⟩
  obtain⟨hg,⟨k1,k8,_,hk⟩,h1,h2,h3⟩:=id ok
  refine ag (aX ⟨_,rfl,_,rfl,rfl,_,rfl,_,lk,ks,rfl,rfl,hlk,?fit,_,rfl,_,rfl,cm ‹1› ‹1›,_,rfl,_,rfl,cm ‹1› ‹1›,by show 4<=sizeLine;decide,λp1 np1=>?_⟩)
  case fit=>
   have:=lM 8 ks λw hw=>(jH (hk w hw)).2.1
   rw [show ‹","›.length=1 from ‹0›]
   omega
  obtain⟨g1,e1⟩:=laid (o:=.lst ((aP (.gth gw ks f0 l0)).map V.str)) np1
  change cF _ _ _ (upd H p1 (.lst ((aP (.gth gw ks f0 l0)).map V.str))) _
  generalize upd H p1 _=H1 at g1 e1 ⊢
  refine⟨_,rfl,?_⟩
  dsimp only [cF,tC,i0,List.append_nil,List.cons_append,List.nil_append]
  show bM K [.ref x,.ref p1,.ref lk,.int 0] H1 _ _
  refine lc (l:=.gth gw ks f0 l0) T hx ok g1 e1 (SqL.of (g1 _ _ hlk)) λln H3 nl o3 el ex=>?_
  have nlx:ln≠x:=λz=>by rw [z,hx]at nl;cases nl
  refine ag ⟨_,rfl,_,rfl,x,C,dx,_,rfl,ex,T.cl,T.a_word,(by show 3 < 1000;decide),?_⟩
  refine ag ⟨_,rfl,_,rfl,x,C,dx,_,rfl,aj,T.cl,T.a_first,(by show 4 < 1000;decide),?_⟩
  refine⟨_,rfl,_,rfl,x,C,dx,_,rfl,aj,T.cl,T.a_last,(by show 5 < 1000;decide),?_⟩
  rw [bv,bv]
  exact q ln _ nl (λb o e n=>by rw [ah n];exact o3 _ _ e n) (by rw [ah nlx];exact el) aj
noncomputable def u6 (K:PySem.W.Frag):Sp:=λvs H Q _=>∃(x C dx:Addr) (k:Str) (b0:Int) (f0:Int) (l0:Int),vs=[.ref x,.str k,.int b0,.int f0,.int l0]/\LfI K C x dx (.snc k b0 f0 l0) H Q
theorem A0:FnScope ["self", "key", "bound", "first", "last"] ["self", "key", "bound", "first", "last"] (aq uG):=‹2›
theorem xY {f f1:Addr}{fd:FuncData} (F:Fun K "__init__" "Since.__init__" uG f fd) (N:Free mg){fd1:FuncData}{CQ:Addr}{mc:Value} (CI:CMc P w K mg base "Question" "__init__" 2 ["self", "words", "keys", "depth"] (bM K) CQ f1 fd1 mc):FnOk P w K mg base CX0 3 f fd ["self", "key", "bound", "first", "last"] (u6 K):=by
 refine F.ok (k:=2) A0 (λvs H Q E h=>?_) (λcdv A outer s H vs Q E hr h=>?_)
 ·obtain⟨x,C,dx,k,b0,f0,l0,rfl,_⟩:=h
  rfl
 ·obtain⟨x,C,dx,k,b0,f0,l0,rfl,⟨T,hx,ok,q⟩⟩:=h
  have hu:=aL hr
  refine⟨_,(af (aY (di rfl CI.nm CI.h1 CI.h2 CI.h3 rfl CI.ok (hr.mono (by decide)) CI.kp CI.bd .nil av (aa (pv 0) (aa (aR (aa aB (aa (pv 1) (aa (aQ bg (by rfl) N.str PyProof.Rows.Boot.«str» (aa (pv 2) ae)) (aa (aQ bg (by rfl) N.str PyProof.Rows.Boot.«str» (aa (pv 3) ae)) (aa (aQ bg (by rfl) N.str PyProof.Rows.Boot.«str» (aa (pv 4) ae)) ae)))))) (aa (aR (aa (pv 1) ae)) (aa au ae))))))
   (af (bz (pv 0) (pv 1) rfl)
   (af (bz (pv 0) (pv 2) rfl)
   (af (bz (pv 0) (pv 3) rfl)
   (ao (bz (pv 0) (pv 4) rfl)))))),?_⟩
  obtain⟨_,hb,h1,h2,h3⟩:=id ok
  refine ag (aX ⟨_,rfl,_,rfl,_,rfl,_,rfl,cm hb.1 hb.2,_,rfl,_,rfl,cm ‹1› ‹1›,_,rfl,_,rfl,cm ‹1› ‹1›,by show 5<=sizeLine;decide,λp1 np1=>?_⟩)
  obtain⟨g1,e1⟩:=laid (o:=.lst ((aP (.snc k b0 f0 l0)).map V.str)) np1
  change cF _ _ _ (upd H p1 (.lst ((aP (.snc k b0 f0 l0)).map V.str))) _
  generalize upd H p1 _=H1 at g1 e1 ⊢
  refine⟨_,rfl,by show 1<=sizeLine;decide,λp2 np2=>?_⟩
  obtain⟨g2,e2⟩:=laid (o:=.lst ((bO (.snc k b0 f0 l0)).map V.str)) np2
  dsimp only [cF,tC,i0,List.append_nil,List.cons_append,List.nil_append]
  show bM K [.ref x,.ref p1,.ref p2,.int 0] (upd H1 p2 (.lst ((bO (.snc k b0 f0 l0)).map V.str))) _ _
  refine lc (l:=.snc k b0 f0 l0) T hx ok (g1.trans g2) (g2 _ _ e1) (SqL.of e2) λln H3 nl o3 el ex=>?_
  have nlx:ln≠x:=λz=>by rw [z,hx]at nl;cases nl
  refine ag ⟨_,rfl,_,rfl,x,C,dx,_,rfl,ex,T.cl,T.a_key,(by show 3 < 1000;decide),?_⟩
  refine ag ⟨_,rfl,_,rfl,x,C,dx,_,rfl,aj,T.cl,T.a_bound,(by show 4 < 1000;decide),?_⟩
  refine ag ⟨_,rfl,_,rfl,x,C,dx,_,rfl,aj,T.cl,T.a_first,(by show 5 < 1000;decide),?_⟩
  refine⟨_,rfl,_,rfl,x,C,dx,_,rfl,aj,T.cl,T.a_last,(by show 6 < 1000;decide),?_⟩
  rw [bv,bv,bv]
  exact q ln _ nl (λb o e n=>by rw [ah n];exact o3 _ _ e n) (by rw [ah nlx];exact el) aj
noncomputable def u7 (K:PySem.W.Frag):Sp:=λvs H Q _=>∃(x C dx:Addr) (k:Str) (k2:Str) (f0:Int) (l0:Int),vs=[.ref x,.str k,.str k2,.int f0,.int l0]/\LfI K C x dx (.prt k k2 f0 l0) H Q
theorem A1:FnScope ["self", "one", "other", "first", "last"] ["self", "one", "other", "first", "last"] (aq uH):=‹2›
theorem xZ {f f1:Addr}{fd:FuncData} (F:Fun K "__init__" "Part.__init__" uH f fd) (N:Free mg){fd1:FuncData}{CQ:Addr}{mc:Value} (CI:CMc P w K mg base "Question" "__init__" 2 ["self", "words", "keys", "depth"] (bM K) CQ f1 fd1 mc):FnOk P w K mg base CX0 3 f fd ["self", "one", "other", "first", "last"] (u7 K):=by
 refine F.ok (k:=2) A1 (λvs H Q E h=>?_) (λcdv A outer s H vs Q E hr h=>?_)
 ·obtain⟨x,C,dx,k,k2,f0,l0,rfl,_⟩:=h
  rfl
 ·obtain⟨x,C,dx,k,k2,f0,l0,rfl,⟨T,hx,ok,q⟩⟩:=h
  have hu:=aL hr
  refine⟨_,(af (aY (di rfl CI.nm CI.h1 CI.h2 CI.h3 rfl CI.ok (hr.mono (by decide)) CI.kp CI.bd .nil av (aa (pv 0) (aa (aR (aa aB (aa (pv 1) (aa (pv 2) (aa (aQ bg (by rfl) N.str PyProof.Rows.Boot.«str» (aa (pv 3) ae)) (aa (aQ bg (by rfl) N.str PyProof.Rows.Boot.«str» (aa (pv 4) ae)) ae)))))) (aa (aR (aa (pv 1) (aa (pv 2) ae))) (aa au ae))))))
   (af (bz (pv 0) (pv 1) rfl)
   (af (bz (pv 0) (pv 2) rfl)
   (af (bz (pv 0) (pv 3) rfl)
   (ao (bz (pv 0) (pv 4) rfl)))))),?_⟩
  obtain⟨_,_,h1,h2,h3⟩:=id ok
  refine ag (aX ⟨_,rfl,_,rfl,_,rfl,_,rfl,_,rfl,cm ‹1› ‹1›,_,rfl,_,rfl,cm ‹1› ‹1›,by show 5<=sizeLine;decide,λp1 np1=>?_⟩)
  obtain⟨g1,e1⟩:=laid (o:=.lst ((aP (.prt k k2 f0 l0)).map V.str)) np1
  change cF _ _ _ (upd H p1 (.lst ((aP (.prt k k2 f0 l0)).map V.str))) _
  generalize upd H p1 _=H1 at g1 e1 ⊢
  refine⟨_,rfl,_,rfl,by show 2<=sizeLine;decide,λp2 np2=>?_⟩
  obtain⟨g2,e2⟩:=laid (o:=.lst ((bO (.prt k k2 f0 l0)).map V.str)) np2
  dsimp only [cF,tC,i0,List.append_nil,List.cons_append,List.nil_append]
  show bM K [.ref x,.ref p1,.ref p2,.int 0] (upd H1 p2 (.lst ((bO (.prt k k2 f0 l0)).map V.str))) _ _
  refine lc (l:=.prt k k2 f0 l0) T hx ok (g1.trans g2) (g2 _ _ e1) (SqL.of e2) λln H3 nl o3 el ex=>?_
  have nlx:ln≠x:=λz=>by rw [z,hx]at nl;cases nl
  refine ag ⟨_,rfl,_,rfl,x,C,dx,_,rfl,ex,T.cl,T.a_one,(by show 3 < 1000;decide),?_⟩
  refine ag ⟨_,rfl,_,rfl,x,C,dx,_,rfl,aj,T.cl,T.a_other,(by show 4 < 1000;decide),?_⟩
  refine ag ⟨_,rfl,_,rfl,x,C,dx,_,rfl,aj,T.cl,T.a_first,(by show 5 < 1000;decide),?_⟩
  refine⟨_,rfl,_,rfl,x,C,dx,_,rfl,aj,T.cl,T.a_last,(by show 6 < 1000;decide),?_⟩
  rw [bv,bv,bv]
  exact q ln _ nl (λb o e n=>by rw [ah n];exact o3 _ _ e n) (by rw [ah nlx];exact el) aj
noncomputable def u9 (K:PySem.W.Frag):Sp:=λvs H Q _=>∃(x C dx:Addr) (r0:Int) (k:Str) (f0:Int) (l0:Int),vs=[.ref x,.int r0,.str k,.int f0,.int l0]/\LfI K C x dx (.chg r0 k f0 l0) H Q
theorem A4:FnScope ["self", "rank", "key", "first", "last"] ["self", "rank", "key", "first", "last"] (aq uK):=‹2›
theorem y8 {f f1:Addr}{fd:FuncData} (F:Fun K "__init__" "Change.__init__" uK f fd) (N:Free mg){fd1:FuncData}{CQ:Addr}{mc:Value} (CI:CMc P w K mg base "Question" "__init__" 2 ["self", "words", "keys", "depth"] (bM K) CQ f1 fd1 mc):FnOk P w K mg base CX0 3 f fd ["self", "rank", "key", "first", "last"] (u9 K):=by
 refine F.ok (k:=2) A4 (λvs H Q E h=>?_) (λcdv A outer s H vs Q E hr h=>?_)
 ·obtain⟨x,C,dx,r0,k,f0,l0,rfl,_⟩:=h
  rfl
 ·obtain⟨x,C,dx,r0,k,f0,l0,rfl,⟨T,hx,ok,q⟩⟩:=h
  have hu:=aL hr
  refine⟨_,(af (aY (di rfl CI.nm CI.h1 CI.h2 CI.h3 rfl CI.ok (hr.mono (by decide)) CI.kp CI.bd .nil av (aa (pv 0) (aa (aR (aa aB (aa (aQ bg (by rfl) N.str PyProof.Rows.Boot.«str» (aa (pv 1) ae)) (aa (pv 2) (aa (aQ bg (by rfl) N.str PyProof.Rows.Boot.«str» (aa (pv 3) ae)) (aa (aQ bg (by rfl) N.str PyProof.Rows.Boot.«str» (aa (pv 4) ae)) ae)))))) (aa (aR (aa (pv 2) ae)) (aa au ae))))))
   (af (bz (pv 0) (pv 1) rfl)
   (af (bz (pv 0) (pv 2) rfl)
   (af (bz (pv 0) (pv 3) rfl)
   (ao (bz (pv 0) (pv 4) rfl)))))),?_⟩
  obtain⟨⟨r1,r2⟩,_,h1,h2,h3⟩:=id ok
  refine ag (aX ⟨_,rfl,_,rfl,_,rfl,cm ‹1› ‹1›,_,rfl,_,rfl,_,rfl,cm ‹1› ‹1›,_,rfl,_,rfl,cm ‹1› ‹1›,by show 5<=sizeLine;decide,λp1 np1=>?_⟩)
  obtain⟨g1,e1⟩:=laid (o:=.lst ((aP (.chg r0 k f0 l0)).map V.str)) np1
  change cF _ _ _ (upd H p1 (.lst ((aP (.chg r0 k f0 l0)).map V.str))) _
  generalize upd H p1 _=H1 at g1 e1 ⊢
  refine⟨_,rfl,by show 1<=sizeLine;decide,λp2 np2=>?_⟩
  obtain⟨g2,e2⟩:=laid (o:=.lst ((bO (.chg r0 k f0 l0)).map V.str)) np2
  dsimp only [cF,tC,i0,List.append_nil,List.cons_append,List.nil_append]
  show bM K [.ref x,.ref p1,.ref p2,.int 0] (upd H1 p2 (.lst ((bO (.chg r0 k f0 l0)).map V.str))) _ _
  refine lc (l:=.chg r0 k f0 l0) T hx ok (g1.trans g2) (g2 _ _ e1) (SqL.of e2) λln H3 nl o3 el ex=>?_
  have nlx:ln≠x:=λz=>by rw [z,hx]at nl;cases nl
  refine ag ⟨_,rfl,_,rfl,x,C,dx,_,rfl,ex,T.cl,T.a_rank,(by show 3 < 1000;decide),?_⟩
  refine ag ⟨_,rfl,_,rfl,x,C,dx,_,rfl,aj,T.cl,T.a_key,(by show 4 < 1000;decide),?_⟩
  refine ag ⟨_,rfl,_,rfl,x,C,dx,_,rfl,aj,T.cl,T.a_first,(by show 5 < 1000;decide),?_⟩
  refine⟨_,rfl,_,rfl,x,C,dx,_,rfl,aj,T.cl,T.a_last,(by show 6 < 1000;decide),?_⟩
  rw [bv,bv,bv]
  exact q ln _ nl (λb o e n=>by rw [ah n];exact o3 _ _ e n) (by rw [ah nlx];exact el) aj
noncomputable abbrev pN:Stmt:=aU (top 24) 0
noncomputable abbrev pL:Stmt:=aU (top 25) 0
noncomputable abbrev pM:Stmt:=aU (top 26) 0
structure Cs where
 num:Addr
 val:Addr
 gth:Addr
 snc:Addr
 prt:Addr
 chg:Addr
 rck:Addr
 chc:Addr
noncomputable def Cs.all (c:Cs):List Addr:=[c.num,c.val,c.gth,c.snc,c.prt,c.chg,c.rck,c.chc]
noncomputable def lfC (c:Cs):Lf->Addr
 | .num _=>c.num
 | .val _ _=>c.val
 | .gth _ _ _ _=>c.gth
 | .snc _ _ _ _=>c.snc
 | .prt _ _ _ _=>c.prt
 | .chg _ _ _ _=>c.chg
noncomputable def brC (c:Cs) (w:Str):Addr:=if w∈eW then c.rck else c.chc
theorem gp (c:Cs) (l:Lf):lfC c l∈c.all:=by
 cases l <;> simp [lfC,Cs.all]
theorem qv (c:Cs) (w:Str):brC c w∈c.all:=by
 unfold brC
 split <;> simp [Cs.all]
inductive LfX (c:Cs) (l:Lf) (H:Hp) (x:Addr):Prop
 | mk (dx ln:Addr) (h1:H x=some (.ins (lfC c l) dx (oo l ln))) (h2:H ln=some (.lst ((aN (bO l)).map V.str))):LfX c l H x
noncomputable def yx (n:Nat) (w:Str) (xs:List Nd) (ln li:Addr):List (Str × V):=qf3 (jn (aW (n+1) (.brk w xs))) ln (dG (n+1) (.brk w xs))++([("word", V.str w),("inner", V.ref li)]:List (Str × V))
inductive BrX (c:Cs) (n:Nat) (w:Str) (xs:List Nd) (F:Addr->Nd->Prop) (H:Hp) (x:Addr):Prop
 | mk (dx ln li:Addr) (as:List Addr) (h1:H x=some (.ins (brC c w) dx (yx n w xs ln li))) (h2:H ln=some (.lst ((aN (dD (n+1) (.brk w xs))).map V.str))) (h3:H li=some (.lst (as.map V.ref))) (h4:Paired F as xs):BrX c n w xs F H x
noncomputable def cr (c:Cs):Nat->Nd->Hp->Addr->Prop
 | 0,.leaf l,H,x=>LfX c l H x
 | 0,.brk _ _,_,_=>False
 | _+1,.leaf l,H,x=>LfX c l H x
 | n+1,.brk w xs,H,x=>BrX c n w xs (λa q=>cr c n q H a) H x
theorem mf {c:Cs}{n:Nat}{l:Lf}{H:Hp}{x:Addr}:cr c n (.leaf l) H x↔LfX c l H x:=by cases n <;> exact Iff.rfl
def Kq (c:Cs) (H H':Hp):Prop:=(∀b C dx fs,H b=some (.ins C dx fs)->C∈c.all->H' b=some (.ins C dx fs))/\∀b xs,H b=some (.lst xs)->(∀v∈xs,v=.non\/(∃z,v=.str z)\/∃a,v=.ref a)->H' b=some (.lst xs)
theorem LfX.keep {c:Cs}{l:Lf}{H H':Hp}{x:Addr} (h:LfX c l H x) (g:Kq c H H'):LfX c l H' x:=by
 obtain⟨dx,ln,h1,h2⟩:=h
 refine⟨dx,ln,g.1 _ _ _ _ h1 (gp c l),g.2 _ _ h2 λv hv=>?_⟩
 obtain⟨z,_,rfl⟩:=List.mem_map.mp hv
 exact .inr (.inl ⟨z,rfl⟩)
theorem cr.keep {c:Cs}{H H':Hp} (g:Kq c H H'):∀{n:Nat}{nd:Nd}{x:Addr},cr c n nd H x->cr c n nd H' x
 | 0,.leaf l,x,h=>LfX.keep (show LfX c l H x from h) g
 | 0,.brk _ _,_,h=>(show False from h).elim
 | _+1,.leaf l,x,h=>LfX.keep (show LfX c l H x from h) g
 | n+1,.brk w xs,x,h=>by
  obtain⟨dx,ln,li,as,h1,h2,h3,h4⟩:BrX c n w xs (λa q=>cr c n q H a) H x:=h
  refine BrX.mk dx ln li as (g.1 _ _ _ _ h1 (qv c w)) (g.2 _ _ h2 λv hv=>?_) (g.2 _ _ h3 λv hv=>?_) (Paired.mono (λa q h=>cr.keep g h) h4)
  ·obtain⟨z,_,rfl⟩:=List.mem_map.mp hv
   exact .inr (.inl ⟨z,rfl⟩)
  ·obtain⟨z,_,rfl⟩:=List.mem_map.mp hv
   exact .inr (.inr ⟨z,rfl⟩)
theorem Kq.grow {c:Cs}{H H':Hp} (g:bh H H'):Kq c H H':=⟨λ_ _ _ _ e _=>g _ _ e,λ_ _ e _=>g _ _ e⟩
theorem wM (n:Nat) (w:Str) (xs:List Nd) (ln li:Addr):∀p∈yx n w xs ln li,p.1∈cW:=by
 have key:∀{fs:List (Str × V)}{ks:List Str},fs.map (·.1)=ks->(∀k∈ks,k∈cW)->∀p∈fs,p.1∈cW:=λe h p hp=>h _ (by rw [<- e];exact List.mem_map_of_mem hp)
 exact key (ks:=[‹"written"›, ‹"names"›, ‹"levels"›, ‹"word"›, ‹"inner"›]) rfl ‹0›
theorem cr.at {c:Cs}{H:Hp}{n:Nat}{nd:Nd}{x:Addr} (h:cr c n nd H x):∃C ln,C∈c.all/\QAt H x C ln (jn (aW n nd)) (aN (dD n nd)) (dG n nd):=by
 cases nd with
 | leaf l=>
  obtain⟨dx,ln,h1,h2⟩:=mf.mp h
  rw [gz,yl,yt]
  exact⟨_,ln,gp c l,⟨dx,vT l,h1,on l ln⟩,h2⟩
 | brk w xs=>
  cases n with
  | zero=>exact(show False from h).elim
  | succ n=>
   obtain⟨dx,ln,li,as,h1,h2,h3,h4⟩:BrX c n w xs (λa q=>cr c n q H a) H x:=h
   exact⟨_,ln,qv c w,⟨dx,_,h1,wM n w xs ln li⟩,h2⟩
theorem QAt.ob' {H:Hp}{x C ln:Addr}{tx:Str}{ks:List Str}{d:Int} (h:QAt H x C ln tx ks d){m:Str} (hm:m∉cW):∃dx fs,H x=some (.ins C dx fs)/\fs.lookup m=none:=by
 obtain⟨dx,r,e,k⟩:=h.ob
 exact⟨dx,_,e,Ap hm k⟩
theorem gj {α β:Type}{F:α->β->Prop}:∀{xs:List α}{ys:List β}{i:Nat}{x:α},Paired F xs ys->xs[i]?=some x->∃y,ys[i]?=some y/\F x y
 | _,_,0,_,.cons a _,h=>by
  cases h
  exact⟨_,rfl,a⟩
 | _,_,i+1,_,.cons _ t,h=>gj (i:=i) t h
 | _,_,0,_,.nil,h=>nomatch h
 | _,_,_+1,_,.nil,h=>nomatch h
theorem dB {α β:Type}{F:α->β->Prop}:∀{xs:List α}{ys:List β},Paired F xs ys->xs.length=ys.length
 | _,_,.nil=>rfl
 | _,_,.cons _ t=>by rw [List.length_cons,List.length_cons,dB t]
theorem lJ:∀(ns:List Int) (a:Int),a<=ns.foldl (λa b=>if b > a then b else a) a/\∀x∈ns,x<=ns.foldl (λa b=>if b > a then b else a) a
 | [],a=>⟨Int.le_refl _,λ_ h=>nomatch h⟩
 | n::ns,a=>by
  obtain⟨h1,h2⟩:=lJ ns (if n > a then n else a)
  have hn:a<=(if n > a then n else a)/\n<=(if n > a then n else a):=by
   split <;> omega
  refine⟨Int.le_trans hn.1 h1,λx hx=>?_⟩
  rcases List.mem_cons.mp hx with z | hx
  ·rw [z];exact Int.le_trans hn.2 h1
  ·exact h2 x hx
theorem qD:∀(ns:List Int) (a m:Int),a<=m->(∀x∈ns,x<=m)->ns.foldl (λa b=>if b > a then b else a) a<=m
 | [],a,m,h,_=>h
 | n::ns,a,m,h,hn=>qD ns _ m (by have:=hn n List.mem_cons_self;show (if n > a then n else a)<=m;split <;> omega) λx hx=>hn x (List.mem_cons_of_mem _ hx)
theorem zH {ns:List Int}{M:Int} (h0:0<=M) (h1:M∈ns) (h2:∀x∈ns,x<=M):M=wY ns:=
 Int.le_antisymm ((lJ ns 0).2 M h1) (qD ns 0 M h0 h2)
theorem wv:∀(n:Nat) (nd:Nd),0<=dG n nd
 | 0,_=>Int.le_refl _
 | _+1,.leaf _=>Int.le_refl _
 | n+1,.brk _ xs=>by
  have:=(lJ (xs.map (dG n)) 0).1
  show 0<=1+wY (xs.map (dG n))
  unfold wY
  omega
theorem qr {K:W.Frag}{la:Addr}{xs ys0:List V}{sub:List Nat}{te:TE}{σ:St}{Q:VK}{H:Hp} (hn:xs.length < 1000) (hl:ys0.length=xs.length) (ha:H la=some (.lst xs)) (hte:∀(i:Nat) (x y:V) (H2:Hp) (R:VK),xs[i]?=some x->ys0[i]?=some y->bh H H2->R y H2->te (some x::bJ sub σ) H2 R)
  (hq:∀(D:Addr),H D=none->Q (.ref D) (upd H D (.lst ys0))):fW (Itl K la) sub (λ_ H Q=>Q true H) te σ Q H:=by
 intro D nD
 have nl:la≠D:=ai ha nD
 refine eA (K:=K) (a:=la) (xs:=xs) (sub:=sub) (tt:=λ_ H Q=>Q true H) (te:=te) (Q:=Q) (σ:=σ) (λi ys H2=>ys=ys0.take i/\H2=upd H D (.lst ys)) ⟨by rw [List.take_zero],rfl⟩ (λi ys H2 _ hh=>?_) (λi x ys H2 hi hh=>?_) λys H2 hh=>?_
 ·obtain⟨_,rfl⟩:=hh
  exact SqL.of (by rw [ah nl];exact ha)
 ·obtain⟨rfl,rfl⟩:=hh
  have hil:=(List.getElem?_eq_some_iff.mp hi).1
  have hy:ys0[i]?=some ys0[i]:=List.getElem?_eq_getElem ‹1›
  refine bB (hte i x _ _ _ hi hy (laid nD).1 ⟨aj,?_,?_,bv⟩)
  ·rw [List.length_take];exact bj ‹1›
  ·rw [List.take_add_one,hy];rfl
 ·obtain⟨rfl,rfl⟩:=hh
  rw [<- hl,List.take_length]
  exact hq D nD
theorem tF {n:Nat}{nd:Nd} (h:hJ n nd) (h3:n<=2):(jn (aW n nd)).length<=15000:=by
 have:=vY (ws:=aW n nd) (m:=79) λw hw=>(jb h w hw).len
 have hl:=hX h
 have hW:Wn n<=125:=by
  rcases (show n=0\/n=1\/n=2 by omega) with rfl | rfl | rfl <;> decide
 omega
theorem jP {α:Type}{f g:α->List Nat}:∀{xs:List α},(∀x∈xs,f x=g x)->xs.flatMap f=xs.flatMap g
 | [],_=>rfl
 | x::xs,h=>by rw [List.flatMap_cons,List.flatMap_cons,h x List.mem_cons_self,jP λy hy=>h y (List.mem_cons_of_mem _ hy)]
noncomputable def brP (n:Nat) (w:Str) (xs:List Nd):List Str:=w::xs.flatMap λq=>[opS,jn (aW n q),clS]
theorem Bf {n:Nat}{w:Str}{xs:List Nd} (h:∀q∈xs,hJ n q):jn (brP n w xs)=jn (aW (n+1) (.brk w xs)):=by
 refine BW (by unfold brP;simp) (by unfold aW;simp) ?_
 show fl 32 (w::xs.flatMap λq=>[opS,jn (aW n q),clS])=fl 32 (w::xs.flatMap λc=>opS::(aW n c++[clS]))
 rw [eS,eS,mK,mK]
 congr 1
 refine jP λq hq=>?_
 show fl 32 ([opS]++[jn (aW n q)]++[clS])=fl 32 ([opS]++aW n q++[clS])
 rw [jQ,jQ,jQ,jQ,C8 (mV n (h q hq))]
inductive BrI (H:Hp) (x:Addr) (w:Str) (li lw lk:Addr) (n:Nat) (xs:List Nd) (i:Nat) (σ:St) (H2:Hp):Prop
 | mk (v5:Option V) (h1:σ=[some (.ref x),some (.str w),some (.ref li),some (.ref lw),some (.ref lk),v5]) (h2:bh H H2) (h3:H2 lw=some (.lst ((brP n w (xs.take i)).map V.str))) (h4:H2 lk=some (.lst (((xs.take i).flatMap λq=>aN (dD n q)).map V.str))):BrI H x w li lw lk n xs i σ H2
noncomputable def lR (K:PySem.W.Frag) (c:Cs):Sp:=λvs H Q _=>∃(x C dx li:Addr) (w:Str) (n:Nat) (as:List Addr) (xs:List Nd),vs=[.ref x,.str w,.ref li]/\QuC K C/\H x=some (.ins C dx [])/\H li=some (.lst (as.map V.ref))/\Paired (λa q=>cr c n q H a) as xs/\hJ (n+1) (.brk w xs)/\n<=2/\
 ∀(ln lj:Addr) (H':Hp),H ln=none->H lj=none->Ofr x H H'->H' ln=some (.lst ((aN (dD (n+1) (.brk w xs))).map V.str))->H' lj=some (.lst (as.map V.ref))->H' x=some (.ins C dx (yx n w xs ln lj))->Q .non H'
theorem bW {H H':Hp} (g:bh H H'){a:Addr} (h:H' a=none):H a=none:=by
 cases e:H a with
 | none=>rfl
 | some o=>rw [g _ _ e]at h;cases h
theorem iU:FnScope ["self", "word", "inner", "words", "keys", "question"] ["self", "word", "inner"] (aq pN):=‹2›
theorem vH {c:Cs}{f f1:Addr}{fd:FuncData} (F:Fun K "__init__" "Bracketed.__init__" pN f fd) (N:Free mg){fd1:FuncData}{CQ:Addr}{mc:Value} (CI:CMc P w K mg base "Question" "__init__" 2 ["self", "words", "keys", "depth"] (bM K) CQ f1 fd1 mc) (VQ:∀C∈c.all,QuC K C) (VT:∀C∈c.all,MV P w K mg base CX0 "text" 1 ["self"] (pb K) C) (VA:∀C∈c.all,MV P w K mg base CX0 "asked_keys" 1 ["self"] (lV K) C) (VD:∀C∈c.all,MV P w K mg base CX0 "depth" 1 ["self"] (jm K) C):FnOk P w K mg base CX0 3 f fd ["self", "word", "inner"] (lR K c):=by
 refine F.ok (k:=2) iU (λvs H Q E h=>?_) (λcdv A outer s H vs Q E hr h=>?_)
 ·obtain⟨x,C,dx,li,w,n,as,xs,rfl,_⟩:=h
  rfl
 ·obtain⟨x,C,dx,li,w,n,as,xs,rfl,T,hx,hli,hp,ok,h2,q⟩:=h
  have hu:=aL hr
  refine⟨_,(af (aE (i:=3) iU.nd rfl (Or.inl rfl) (aR (aa (pv 1) ae)))
   (af (aE (i:=4) iU.nd rfl (Or.inl rfl) (aR ae))
   (af (eJ PassesOwn.never rfl (dg (pv 2)) (bC (i:=5) iU.nd rfl (Or.inl rfl))
   (af (aY (cK PySem.F.plainAttrs_list PySem.F.slot_list_extend PySem.F.type_list_extend fG (pv 3) (aa (aR (aa aB (aa (io VT (pv 5) (hr.mono (by decide)) av) (aa aB ae)))) ae)))
   (ao (aY (cK PySem.F.plainAttrs_list PySem.F.slot_list_extend PySem.F.type_list_extend fG (pv 4) (aa (io VA (pv 5) (hr.mono (by decide)) av) ae))))))
   (af (aY (di rfl CI.nm CI.h1 CI.h2 CI.h3 rfl CI.ok (hr.mono (by decide)) CI.kp CI.bd .nil av (aa (pv 0) (aa (pv 3) (aa (pv 4) (aa (b8 bV au (aG (lA rfl) (by rfl) N.max PyProof.Rows.Boot.«max» (aa (fR (bT rfl (dg (pv 2)) rfl rfl (by show ∀p∈_,iB [] p;decide) (by decide) rfl (by show ([‹"question"›]:List Str).Nodup;decide) .nil (λC fp s H=>df) (λC fp s H=>(io VD (pv 0) (hr.mono (by decide)) av)))) ae))) ae))))))
   (af (bz (pv 0) (pv 1) rfl)
   (ao (bz (pv 0) (aQ eU (by rfl) N.list PyProof.Rows.Boot.«list» (aa (pv 2) ae)) rfl))))))),?_⟩
  obtain⟨hw,hxs⟩:_/\_:=ok
  have hl4:=j9 hw
  have hal:=dB hp
  refine ag (aC ⟨_,rfl,by show 1<=sizeLine;decide,λlw nlw=>?_⟩)
  walk_at "d"
  obtain⟨g1,e1⟩:=laid (o:=.lst [V.str w]) nlw
  generalize upd H lw _=H1 at g1 e1 ⊢
  refine ag (aC ⟨by show 0<=sizeLine;decide,λlk nlk=>?_⟩)
  walk_at "d"
  have nwk:lw≠lk:=ai e1 nlk
  have nlk0:=bW g1 nlk
  obtain⟨g2,e2⟩:=laid (o:=.lst []) nlk
  have e1:=g2 _ _ e1
  have g12:=g1.trans g2
  generalize upd H1 lk _=H2 at g12 e1 e2 ⊢
  refine ag ⟨_,rfl,li,rfl,⟨_,SqL.of (g12 _ _ hli)⟩,gR (K:=K) (a:=li) (xs:=as.map V.ref) (BrI H x w li lw lk n xs) ⟨none,rfl,g12,e1,e2⟩ (λi σ H3 _ hh=>?_) (λi v σ H3 hi hh=>?_) λσ H3 hh=>?_⟩
  ·obtain⟨v5,rfl,g3,_,_⟩:=hh
   exact SqL.of (g3 _ _ hli)
  ·obtain⟨v5,rfl,g3,ew,ek⟩:=hh
   rw [List.getElem?_map]at hi
   obtain⟨a,ha,rfl⟩:=Option.map_eq_some_iff.mp hi
   obtain⟨q0,hq0,hqa⟩:=gj hp ha
   have hqx:=List.mem_of_getElem? hq0
   have hil:=(List.getElem?_eq_some_iff.mp hq0).1
   have et:xs.take (i+1)=xs.take i++[q0]:=by rw [List.take_add_one,hq0];rfl
   walk_at "d"
   obtain⟨C1,ln1,hC1,qa⟩:=(cr.keep (Kq.grow g3) hqa).at
   obtain⟨dx1,fs1,ex1,ef1⟩:=qa.ob' (m:="text") ‹0›
   refine ag (aX ⟨_,rfl,.inl ⟨rfl,_,SqL.of ew⟩,?_⟩)
   refine⟨_,rfl,a,C1,dx1,fs1,rfl,ex1,hC1,ef1,a,C1,ln1,_,_,_,rfl,VQ C1 hC1,qa,by show 3<=sizeLine;decide,λp np=>?_⟩
   obtain⟨g4,e4⟩:=laid (o:=.lst [V.str opS,V.str (jn (aW n q0)),V.str clS]) np
   have npw:lw≠p:=ai ew np
   have npk:lk≠p:=ai ek np
   have ew4:=g4 _ _ ew
   have ek4:=g4 _ _ ek
   have g34:=g3.trans g4
   have hbl:(brP n w (xs.take i)).length<=100:=by
    have h5:=dE (g:=λq=>[opS,jn (aW n q),clS]) (m:=3) (xs.take i) (λ_ _=>Nat.le_refl _)
    rw [List.length_take]at h5
    show (w::_).length<=100
    rw [List.length_cons]
    omega
   refine⟨lw,p,_,_,rfl,rfl,ew4,e4,?_,?_⟩
   ·rw [List.length_map]
    have h3:(brP n w (xs.take i)).length+3<=1000:=by omega
    exact Nat.le_of_lt (bj h3)
   have qa5:=(cr.keep (Kq.grow (g3.trans g4)) hqa).at
   generalize hH5:upd (upd H3 p _) lw _=H5
   have gw:∀b o,H b=some o->H5 b=some o:=λb o e=>by
    rw [<- hH5,ah (ai e nlw)];exact g34 _ _ e
   have ew5:H5 lw=some (.lst ((brP n w (xs.take (i+1))).map V.str)):=by
    rw [<- hH5,aj,et]
    show some (HO.lst ((w::(xs.take i).flatMap _).map V.str++_))=some (HO.lst ((w::(xs.take i++[q0]).flatMap _).map V.str))
    rw [List.flatMap_append,List.map_cons,List.map_cons,List.map_append,List.flatMap_cons,List.flatMap_nil,List.append_nil]
    rfl
   have ek5:H5 lk=some (.lst (((xs.take i).flatMap λq=>aN (dD n q)).map V.str)):=by rw [<- hH5,ah (Ne.symm nwk)];exact ek4
   obtain⟨C1,ln1,hC1,qa⟩:=(cr.keep (Kq.grow gw) hqa).at
   obtain⟨dx1,fs1,ex1,ef1⟩:=qa.ob' (m:="asked_keys") ‹0›
   dsimp only
   refine aX ⟨_,rfl,.inl ⟨rfl,_,SqL.of ek5⟩,?_⟩
   refine⟨_,rfl,a,C1,dx1,fs1,rfl,ex1,hC1,ef1,a,C1,ln1,_,_,_,rfl,VQ C1 hC1,qa,λp2 np2=>?_⟩
   obtain⟨g6,e6⟩:=laid (o:=.lst ((aN (dD n q0)).map V.str)) np2
   have hkn:=Nat.le_trans (gP (hxs q0 hqx)) (Cg (show n<=3 by omega))
   have ho:(aN (dD n q0)).length<=512:=Nat.le_trans (dZ _ _ rfl) hkn
   have hks:=dE (g:=λq=>aN (dD n q)) (m:=128) (xs.take i) λq hq=>by
    have:=gP (hxs q (List.mem_of_mem_take hq))
    have h8:Kn n<=128:=by rcases (show n=0\/n=1\/n=2 by omega) with rfl | rfl | rfl <;> decide
    exact Nat.le_trans (dZ _ _ rfl) ‹1›
   rw [List.length_take]at hks
   refine⟨lk,p2,_,_,rfl,rfl,g6 _ _ ek5,e6,?_,?_⟩
   ·rw [List.length_map,List.length_map]
    exact Nat.le_trans (show _<=2000 by omega) (by decide)
   refine⟨_,rfl,λb o e=>?_,?_,?_⟩
   ·rw [ah (ai e nlk0)];exact g6 _ _ (gw _ _ e)
   ·rw [ah nwk];exact g6 _ _ ew5
   ·rw [aj,et,List.flatMap_append,List.map_append,List.flatMap_cons,List.flatMap_nil,List.append_nil]
  ·obtain⟨v5,rfl,g3,ew,ek⟩:=hh
   rw [List.length_map,hal,List.take_length]at ew ek
   walk_at "d"
   have hli3:=g3 _ _ hli
   refine ag (aX ⟨_,rfl,_,rfl,_,rfl,eF (yW ?_)⟩)
   dsimp only [tC]
   refine yY (eF (de ⟨_,rfl,li,rfl,⟨_,SqL.of hli3⟩,qr (ys0:=(xs.map (dG n)).map V.int) (by rw [List.length_map];omega) (by rw [List.length_map,List.length_map,List.length_map];omega) hli3 (λi v y H4 R hi hy g4 hR=>?_) λD nD=>?_⟩))
   ·rw [List.getElem?_map]at hi
    obtain⟨a,ha,rfl⟩:=Option.map_eq_some_iff.mp hi
    obtain⟨q0,hq0,hqa⟩:=gj hp ha
    rw [List.getElem?_map,List.getElem?_map,hq0]at hy
    cases (show some (V.int (dG n q0))=some y from hy)
    obtain⟨C1,ln1,hC1,qa⟩:=(cr.keep (Kq.grow (g3.trans g4)) hqa).at
    obtain⟨dx1,fs1,ex1,ef1⟩:=qa.ob' (m:="depth") ‹0›
    exact⟨_,rfl,a,C1,dx1,fs1,rfl,ex1,hC1,ef1,a,C1,ln1,_,_,_,rfl,VQ C1 hC1,qa,hR⟩
   obtain⟨g4,e4⟩:=laid (o:=.lst ((xs.map (dG n)).map V.int)) nD
   generalize upd H3 D _=H4 at g4 e4 ⊢
   refine⟨D,_,rfl,SqL.of e4,λz=>?_,λM hM1 hM2=>?_⟩
   ·rw [List.map_eq_nil_iff]at z
    rw [z]at hl4
    exact absurd hl4.1 (by decide)
   have hM0:0<=M:=by
    obtain⟨q0,_,e⟩:=List.mem_map.mp hM1
    rw [<- e];exact wv n q0
   have eM:=zH hM0 hM1 hM2
   refine⟨_,_,rfl,rfl,?_⟩
   dsimp only [cF,tC,i0,List.append_nil,List.cons_append,List.nil_append]
   have eD:1+M=dG (n+1) (.brk w xs):=by rw [eM];rfl
   rw [eD]
   have gH4:=g3.trans g4
   have hkl:=dE (g:=λq=>aN (dD n q)) (m:=128) xs λq hq=>by
    have:=gP (hxs q hq)
    have h8:Kn n<=128:=by rcases (show n=0\/n=1\/n=2 by omega) with rfl | rfl | rfl <;> decide
    exact Nat.le_trans (dZ _ _ rfl) ‹1›
   have hbl:=dE (g:=λq=>[opS,jn (aW n q),clS]) (m:=3) xs (λ_ _=>Nat.le_refl _)
   refine⟨x,C,dx,lw,lk,[],brP n w xs,xs.flatMap λq=>aN (dD n q),_,rfl,T,gH4 _ _ hx,by decide,g4 _ _ ew,SqL.of (g4 _ _ ek),by omega,mF (λv hv=>?_) ?_,λln H5 nl o5 el ex=>?_⟩
   ·rcases List.mem_cons.mp hv with z | hv
    ·rw [z];exact Nat.le_trans (wL hw).hi (by decide)
    ·obtain⟨q0,hq0,hv⟩:=List.mem_flatMap.mp hv
     refine(all_cons (P:=λv=>v.length<=15000) ‹0› (all_cons (tF (hxs q0 hq0) h2) (all_cons ‹0› eV))) v hv
   ·show (w::_).length<=1000
    rw [List.length_cons];omega
   have ej:=Bf (w:=w) hxs
   unfold jn at ej
   rw [ej]at ex
   rw [sj]at el
   have nl0:=bW gH4 nl
   have nlx:ln≠x:=λz=>by rw [z,hx]at nl0;cases nl0
   refine ag ⟨_,rfl,_,rfl,x,C,dx,_,rfl,ex,T.cl,T.a_word,(by show 3 < 1000;decide),?_⟩
   have hli5:=o5 _ _ (g4 _ _ hli3) (cR hli hx (λz=>nomatch z))
   have nlix:li≠x:=cR hli hx (λz=>nomatch z)
   refine⟨_,rfl,li,_,rfl,.inl (SqL.of (by rw [ah nlix];exact hli5)),λlj nj=>?_⟩
   have njx:lj≠x:=λz=>by rw [z,aj]at nj;cases nj
   have nj5:H5 lj=none:=by rw [ah njx]at nj;exact nj
   have nlj:ln≠lj:=ai el nj5
   have nj0:H lj=none:=by
    cases e:H lj with
    | none=>rfl
    | some o=>rw [o5 _ _ (gH4 _ _ e) njx]at nj5;cases nj5
   refine⟨_,rfl,x,C,dx,_,rfl,by rw [ah (Ne.symm njx),aj],T.cl,T.a_inner,(by show 4 < 1000;decide),?_⟩
   refine q ln lj _ nl0 nj0 (λb o e nb=>?_) ?_ ?_ aj
   ·rw [ah nb,ah (ai e nj0),ah nb];exact o5 _ _ (gH4 _ _ e) nb
   ·rw [ah nlx,ah nlj,ah nlx];exact el
   ·rw [ah njx,aj]
inductive KidI (K:PySem.W.Frag) (c:Cs) (x C dx:Addr) (n:Nat) (w:Str) (as:List Addr) (xs:List Nd) (H:Hp) (Q:VK):Prop
 | mk (T:QuC K C) (hx:H x=some (.ins C dx [])) (hp:Paired (λa q=>cr c n q H a) as xs) (ok:hJ (n+1) (.brk w xs)) (h2:n<=2) (q:∀(ln lj:Addr) (H':Hp),H ln=none->H lj=none->Ofr x H H'->H' ln=some (.lst ((aN (dD (n+1) (.brk w xs))).map V.str))->H' lj=some (.lst (as.map V.ref))->H' x=some (.ins C dx (yx n w xs ln lj))->Q .non H'):KidI K c x C dx n w as xs H Q
noncomputable def iQ (K:PySem.W.Frag) (c:Cs):Sp:=λvs H Q _=>∃(x C dx a1 a2:Addr) (w:Str) (n:Nat) (xs:List Nd),vs=[.ref x,.str w,.ref a1,.ref a2]/\KidI K c x C dx n w [a1,a2] xs H Q
noncomputable def iR (K:PySem.W.Frag) (c:Cs):Sp:=λvs H Q _=>∃(x C dx a1 a2 a3 a4:Addr) (w:Str) (n:Nat) (xs:List Nd),vs=[.ref x,.str w,.ref a1,.ref a2,.ref a3,.ref a4]/\KidI K c x C dx n w [a1,a2,a3,a4] xs H Q
theorem xx:FnScope ["self", "word", "one", "other"] ["self", "word", "one", "other"] (aq pL):=‹2›
theorem vF {c:Cs}{f f1:Addr}{fd:FuncData} (F:Fun K "__init__" "Reckoning.__init__" pL f fd) (N:Free mg){fd1:FuncData}{CB:Addr}{mc:Value} (CI:CMc P w K mg base "Bracketed" "__init__" 3 ["self", "word", "inner"] (lR K c) CB f1 fd1 mc):FnOk P w K mg base CX0 4 f fd ["self", "word", "one", "other"] (iQ K c):=by
 refine F.ok (k:=3) xx (λvs H Q E h=>?_) (λcdv A outer s H vs Q E hr h=>?_)
 ·obtain⟨x,C,dx,a1,a2,w,n,xs,rfl,_⟩:=h
  rfl
 ·obtain⟨x,C,dx,a1,a2,w,n,xs,rfl,T,hx,hp,ok,h2,q⟩:=h
  have hu:=aL hr
  refine⟨_,(ao (aY (di rfl CI.nm CI.h1 CI.h2 CI.h3 rfl CI.ok (hr.mono (by decide)) CI.kp CI.bd .nil av (aa (pv 0) (aa (pv 1) (aa (aR (aa (pv 2) (aa (pv 3) ae))) ae)))))),?_⟩
  refine aX ⟨_,rfl,_,rfl,_,rfl,_,rfl,by show 2<=sizeLine;decide,λp np=>?_⟩
  obtain⟨g1,e1⟩:=laid (o:=.lst ([a1,a2].map V.ref)) np
  refine⟨x,C,dx,p,w,n,[a1,a2],xs,rfl,T,g1 _ _ hx,e1,Paired.mono (λa q0 h=>cr.keep (Kq.grow g1) h) hp,ok,h2,λln lj H' nl nj o el ej ex=>?_⟩
  exact q ln lj H' (bW g1 nl) (bW g1 nj) (λb u e n=>o _ _ (g1 _ _ e) n) el ej ex
theorem xy:FnScope ["self", "word", "one", "other", "chosen", "otherwise"] ["self", "word", "one", "other", "chosen", "otherwise"] (aq pM):=‹2›
theorem vG {c:Cs}{f f1:Addr}{fd:FuncData} (F:Fun K "__init__" "Choice.__init__" pM f fd) (N:Free mg){fd1:FuncData}{CB:Addr}{mc:Value} (CI:CMc P w K mg base "Bracketed" "__init__" 3 ["self", "word", "inner"] (lR K c) CB f1 fd1 mc):FnOk P w K mg base CX0 4 f fd ["self", "word", "one", "other", "chosen", "otherwise"] (iR K c):=by
 refine F.ok (k:=3) xy (λvs H Q E h=>?_) (λcdv A outer s H vs Q E hr h=>?_)
 ·obtain⟨x,C,dx,a1,a2,a3,a4,w,n,xs,rfl,_⟩:=h
  rfl
 ·obtain⟨x,C,dx,a1,a2,a3,a4,w,n,xs,rfl,T,hx,hp,ok,h2,q⟩:=h
  have hu:=aL hr
  refine⟨_,(ao (aY (di rfl CI.nm CI.h1 CI.h2 CI.h3 rfl CI.ok (hr.mono (by decide)) CI.kp CI.bd .nil av (aa (pv 0) (aa (pv 1) (aa (aR (aa (pv 2) (aa (pv 3) (aa (pv 4) (aa (pv 5) ae))))) ae)))))),?_⟩
  refine aX ⟨_,rfl,_,rfl,_,rfl,_,rfl,_,rfl,_,rfl,by show 4<=sizeLine;decide,λp np=>?_⟩
  obtain⟨g1,e1⟩:=laid (o:=.lst ([a1,a2,a3,a4].map V.ref)) np
  refine⟨x,C,dx,p,w,n,[a1,a2,a3,a4],xs,rfl,T,g1 _ _ hx,e1,Paired.mono (λa q0 h=>cr.keep (Kq.grow g1) h) hp,ok,h2,λln lj H' nl nj o el ej ex=>?_⟩
  exact q ln lj H' (bW g1 nl) (bW g1 nj) (λb u e n=>o _ _ (g1 _ _ e) n) el ej ex
noncomputable abbrev m7:Stmt:=top 42
noncomputable abbrev sQh:Stmt:=top 41
noncomputable abbrev uv:Stmt:=top 43
noncomputable abbrev A8:Stmt:=top 40
structure MkC (P:Program) (w:World) (K:PySem.W.Frag) (mg:Str->Option Value) (base:Heap) (cn:Str) (k:Nat) (ps:List Str) (sp:Sp) (C f:Addr) (fd:FuncData):Prop where
 km:Mk K C f
 ok:FnOk P w K mg base CX0 k f fd ps sp
 nm:mg cn=some (.ref C)
 bd:cj K fd ps []
theorem Ofr.trans {r:Addr}{H H1 H2:Hp} (h:Ofr r H H1) (g:Ofr r H1 H2):Ofr r H H2:=λb o e n=>g _ _ (h _ _ e n) n
theorem Ofr.refl {r:Addr}{H:Hp}:Ofr r H H:=λ_ _ e _=>e
theorem RdAt.free {R:Addr}{H H1:Hp}{r lw x:Addr}{ws:List Str}{pl:Nat}{op:Int} (h1:RdAt R H1 r lw ws pl op) (o1:Ofr r H H1) (nx:H1 x=none):H x=none:=by
 cases e:H x with
 | none=>rfl
 | some o=>
  by_cases z:x=r
  ·obtain⟨d,er⟩:=h1.ob
   rw [z,er]at nx;cases nx
  ·rw [o1 _ _ e z]at nx;cases nx
theorem RdAt.made {R:Addr}{H1 H':Hp}{r lw x dx C:Addr}{ws:List Str}{pl:Nat}{op:Int} (h1:RdAt R H1 r lw ws pl op) (nx:H1 x=none) (nd:H1 dx=none) (o:Ofr x (upd (upd H1 dx (.own x)) x (.ins C dx [])) H'):bh H1 H'/\RdAt R H' r lw ws pl op:=by
 have g:bh H1 H':=λb u e=>o _ _ (by rw [ah (ai e nx),ah (ai e nd)];exact e) (ai e nx)
 exact⟨g,h1.keep g⟩
noncomputable def wo (H0 H:Hp):Hp:=λb=>match H0 b with
 | none=>H b
 | some _=>none
theorem eC {H0 H:Hp}{b:Addr} (h:H0 b=none):wo H0 H b=H b:=by unfold wo;rw [h]
theorem oU {H0 H:Hp}{b:Addr}{o:HO} (h:wo H0 H b=some o):H0 b=none/\H b=some o:=by
 unfold wo at h
 cases e:H0 b with
 | none=>rw [e]at h;exact⟨rfl,h⟩
 | some _=>rw [e]at h;cases h
theorem t8 {H0 H:Hp}:bh (wo H0 H) H:=λb o e=>(oU e).2
theorem iN {H0 H H':Hp} (g:∀b o,H0 b=none->H b=some o->H' b=some o):bh (wo H0 H) (wo H0 H'):=λb o e=>by
 obtain⟨h1,h2⟩:=oU e
 rw [eC h1];exact g _ _ h1 h2
theorem hZ {H0 H1 H:Hp} (g:∀b,H1 b=none->H0 b=none):bh (wo H1 H) (wo H0 H):=λb o e=>by
 obtain⟨h1,h2⟩:=oU e
 rw [eC (g _ h1)];exact h2
theorem fH {K:W.Frag}{c:Cs}{R:Addr}{H H1:Hp}{r lw x dx:Addr}{ws:List Str}{pl:Nat}{op:Int}{l:Lf}{Q:VK} (VQ:∀C∈c.all,QuC K C) (ok:dL l) (o1:Ofr r H H1) (h1:RdAt R H1 r lw ws pl op) (nx:H1 x=none) (nd:H1 dx=none)
  (q:∀x H',H x=none->Ofr r H H'->RdAt R H' r lw ws pl op->LfX c l (wo H H') x->Q (.ref x) H'):LfI K (lfC c l) x dx l (upd (upd H1 dx (.own x)) x (.ins (lfC c l) dx [])) (λv H2=>v=.non/\Q (.ref x) H2):=by
 refine⟨VQ _ (gp c l),aj,ok,λln H' nl o el ex=>⟨rfl,?_⟩⟩
 obtain⟨g,h'⟩:=h1.made nx nd o
 have nl1:H1 ln=none:=by
  cases e:H1 ln with
  | none=>rfl
  | some u=>rw [ah (ai e nx),ah (ai e nd),e]at nl;cases nl
 exact q x H' (h1.free o1 nx) (λb u e n=>g _ _ (o1 _ _ e n)) h' ⟨dx,ln,by rw [eC (h1.free o1 nx)];exact ex,by rw [eC (h1.free o1 nl1)];exact el⟩
noncomputable def rH:Lf->Prop
 | .gth _ _ _ _=>True
 | _=>False
noncomputable def gy (l:Lf):List Str:=(aP l).tail
noncomputable def bX (l:Lf):Str:=(aP l).headD ‹""›
theorem tz (l:Lf):aP l=bX l::gy l:=by cases l <;> rfl
inductive SgI (c:Cs) (R:Addr) (l:Lf) (r:Addr) (H:Hp) (Q:VK):Prop
 | mk (lw:Addr) (ws:List Str) (pl:Nat) (op:Int) (ok:dL l) (ng:¬rH l) (h:RdAt R H r lw ws pl op) (hat:At ws pl (gy l)) (q:∀x H',H x=none->Ofr r H H'->RdAt R H' r lw ws (pl+(gy l).length) op->LfX c l (wo H H') x->Q (.ref x) H'):SgI c R l r H Q
noncomputable def gC (c:Cs) (R:Addr):Sp:=λvs H Q _=>∃(r:Addr) (l:Lf),vs=[.ref r,.str (bX l)]/\SgI c R l r H Q
theorem wl {w:Str} (h:Wd w):w.length < sizeLine:=Nat.lt_of_le_of_lt h.hi (by decide)
theorem nl {w:Str} (h:iM w):w.length < sizeLine:=wl (kY h)
theorem ca:FnScope ["reader", "word", "key", "bound", "first", "one", "other", "rank"] ["reader", "word"] (aq m7):=‹2›
theorem sq {c:Cs}{f f1 f2 f3 f4 f5 f6 f7 f8 f9 R:Addr}{fd:FuncData} (F:Fun K "single_here" "single_here" m7 f fd) (N:Free mg) (Z:Con mg) (VQ:∀C∈c.all,QuC K C){fd1:FuncData} (MV_:MC P w K mg base R "value_here" 4 ["self"] [] [] (tT R) f1 fd1){fd2:FuncData} (MD:MC P w K mg base R "day_here" 4 ["self", "earliest"] [] [] (jo R) f2 fd2){fd3:FuncData} (MK:MC P w K mg base R "key_here" 3 ["self"] [] [] (u0 R) f3 fd3){fd4:FuncData} (MN:MC P w K mg base R "number_here" 3 ["self", "low", "high"] [] [] (lQ R) f4 fd4){fd5:FuncData} (KNum:MkC P w K mg base "Number" 3 ["self", "number"] (u8 K) c.num f5 fd5){fd6:FuncData} (KVal:MkC P w K mg base "Value" 3 ["self", "key", "day"] (u5 K) c.val f6 fd6){fd7:FuncData} (KSnc:MkC P w K mg base "Since" 3 ["self", "key", "bound", "first", "last"] (u6 K) c.snc f7 fd7){fd8:FuncData} (KPrt:MkC P w K mg base "Part" 3 ["self", "one", "other", "first", "last"] (u7 K) c.prt f8 fd8){fd9:FuncData} (KChg:MkC P w K mg base "Change" 3 ["self", "rank", "key", "first", "last"] (u9 K) c.chg f9 fd9):FnOk P w K mg base CX0 5 f fd ["reader", "word"] (gC c R):=by
 obtain⟨t1,c1⟩:=Z.rank
 refine F.ok (k:=4) ca (λvs H Q E h=>?_) (λcdv A outer s H vs Q E hr h=>?_)
 ·obtain⟨r,l,rfl,_⟩:=h
  rfl
 ·obtain⟨r,l,rfl,lw,ws,pl,op,ok,ng,h,hat,q⟩:=h
  have hu:=aL hr
  refine⟨_,(af (bt (aK bK (pv 1) aB (aS _)) (ao (ay (dh KNum.km KNum.ok (hr.mono (by decide)) rfl KNum.nm KNum.bd .nil av (aa (bw (pv 0) MV_.cl MV_.mt MV_.ok (hr.mono (by decide)) MV_.bd MV_.dv av) ae)))) aI)
   (af (bt (aK bK (pv 1) aB (aS _)) (af (aE (i:=2) ca.nd rfl (Or.inl rfl) (bw (pv 0) MK.cl MK.mt MK.ok (hr.mono (by decide)) MK.bd MK.dv av))
   (ao (ay (dh KVal.km KVal.ok (hr.mono (by decide)) rfl KVal.nm KVal.bd .nil av (aa (pv 2) (aa (bH (pv 0) MD.cl MD.mt MD.ok (hr.mono (by decide)) MD.bd MD.dv av (aa au ae)) ae)))))) aI)
   (af (bt (aK bK (pv 1) aB (aS _)) (af (aE (i:=2) ca.nd rfl (Or.inl rfl) (bw (pv 0) MK.cl MK.mt MK.ok (hr.mono (by decide)) MK.bd MK.dv av))
   (af (aE (i:=3) ca.nd rfl (Or.inl rfl) (bw (pv 0) MV_.cl MV_.mt MV_.ok (hr.mono (by decide)) MV_.bd MV_.dv av))
   (af (aE (i:=4) ca.nd rfl (Or.inl rfl) (bH (pv 0) MD.cl MD.mt MD.ok (hr.mono (by decide)) MD.bd MD.dv av (aa au ae)))
   (ao (ay (dh KSnc.km KSnc.ok (hr.mono (by decide)) rfl KSnc.nm KSnc.bd .nil av (aa (pv 2) (aa (pv 3) (aa (pv 4) (aa (bH (pv 0) MD.cl MD.mt MD.ok (hr.mono (by decide)) MD.bd MD.dv av (aa (pv 4) ae)) ae)))))))))) aI)
   (af (bt (aK bK (pv 1) aB (aS _)) (af (aE (i:=5) ca.nd rfl (Or.inl rfl) (bw (pv 0) MK.cl MK.mt MK.ok (hr.mono (by decide)) MK.bd MK.dv av))
   (af (aE (i:=6) ca.nd rfl (Or.inl rfl) (bw (pv 0) MK.cl MK.mt MK.ok (hr.mono (by decide)) MK.bd MK.dv av))
   (af (aE (i:=4) ca.nd rfl (Or.inl rfl) (bH (pv 0) MD.cl MD.mt MD.ok (hr.mono (by decide)) MD.bd MD.dv av (aa au ae)))
   (ao (ay (dh KPrt.km KPrt.ok (hr.mono (by decide)) rfl KPrt.nm KPrt.bd .nil av (aa (pv 5) (aa (pv 6) (aa (pv 4) (aa (bH (pv 0) MD.cl MD.mt MD.ok (hr.mono (by decide)) MD.bd MD.dv av (aa (pv 4) ae)) ae)))))))))) aI)
   (af (aE (i:=7) ca.nd rfl (Or.inl rfl) (bH (pv 0) MN.cl MN.mt MN.ok (hr.mono (by decide)) MN.bd MN.dv av (aa au (aa (bI (v:=.int 400) (by rfl) c1 ⟨_,rfl⟩) ae))))
   (af (aE (i:=2) ca.nd rfl (Or.inl rfl) (bw (pv 0) MK.cl MK.mt MK.ok (hr.mono (by decide)) MK.bd MK.dv av))
   (af (aE (i:=4) ca.nd rfl (Or.inl rfl) (bH (pv 0) MD.cl MD.mt MD.ok (hr.mono (by decide)) MD.bd MD.dv av (aa au ae)))
   (ao (ay (dh KChg.km KChg.ok (hr.mono (by decide)) rfl KChg.nm KChg.bd .nil av (aa (pv 7) (aa (pv 2) (aa (pv 4) (aa (bH (pv 0) MD.cl MD.mt MD.ok (hr.mono (by decide)) MD.bd MD.dv av (aa (pv 4) ae)) ae)))))))))))))),?_⟩
  cases l with
  | gth w ks f0 l0=>exact absurd True.intro ng
  | num z=>
   refine ag (aH ⟨_,rfl,rfl,_,rfl,?_⟩)
   refine bB ?_
   have hz:=id ok
   have o0:Ofr r H H:=Ofr.refl
   obtain⟨dx0,ho0⟩:=h.ob
   have hx0:=hat.hd
   refine aD ⟨_,rfl,r,dx0,_,rfl,ho0,bx _ _ _ ‹0› ‹0› ‹0›,r,lw,ws,_,op,z,_,rfl,h,hx0,wl (cQ hz.1 hz.2),da hz.1 hz.2 hz.1 hz.2,λH9 p9 h9=>?_⟩
   intro x dx nx nd _
   exact⟨x,_,dx,z,rfl,fH (l:=.num z) VQ ok (o0.trans p9) h9 nx nd q⟩
  | val k d=>
   refine ag (aH ⟨_,rfl,rfl,_,rfl,?_⟩)
   rw [show decide (V.str (bX (.val k d))=V.str ‹"number"›)=false from (show decide (V.str ‹"value"›=V.str ‹"number"›)=false from ‹0›)]
   refine aZ (aA ?_)
   dsimp only
   refine ag (aH ⟨_,rfl,rfl,_,rfl,?_⟩)
   refine bB ?_
   obtain⟨hk,d0,d1⟩:=id ok
   have o0:Ofr r H H:=Ofr.refl
   obtain⟨dx0,ho0⟩:=h.ob
   have hx0:=hat.hd
   have at0:=hat.tl
   refine ag (aC ⟨_,rfl,r,dx0,_,rfl,ho0,bx _ _ _ ‹0› ‹0› ‹0›,r,lw,ws,_,op,k,rfl,h,hx0,nl hk,hk,λH0 p0 h0_=>?_⟩)
   walk_at "d"
   have o1:=o0.trans p0
   obtain⟨dx1,ho1⟩:=h0_.ob
   have hx1:=at0.hd
   refine aD ⟨_,rfl,_,rfl,r,dx1,_,rfl,ho1,bx _ _ _ ‹0› ‹0› ‹0›,r,lw,ws,_,op,0,d,_,rfl,h0_,hx1,wl (cQ ‹1› ‹1›),da ‹1› ‹1› ‹1› ‹1›,λH9 p9 h9=>?_⟩
   intro x dx nx nd _
   exact⟨x,_,dx,k,d,rfl,fH (l:=.val k d) VQ ok (o1.trans p9) h9 nx nd q⟩
  | snc k b0 f0 l0=>
   refine ag (aH ⟨_,rfl,rfl,_,rfl,?_⟩)
   rw [show decide (V.str (bX (.snc k b0 f0 l0))=V.str ‹"number"›)=false from (show decide (V.str ‹"since"›=V.str ‹"number"›)=false from ‹0›)]
   refine aZ (aA ?_)
   dsimp only
   refine ag (aH ⟨_,rfl,rfl,_,rfl,?_⟩)
   rw [show decide (V.str (bX (.snc k b0 f0 l0))=V.str ‹"value"›)=false from (show decide (V.str ‹"since"›=V.str ‹"value"›)=false from ‹0›)]
   refine aZ (aA ?_)
   dsimp only
   refine ag (aH ⟨_,rfl,rfl,_,rfl,?_⟩)
   refine bB ?_
   obtain⟨hk,hb,h1,h2,h3⟩:=id ok
   have o0:Ofr r H H:=Ofr.refl
   obtain⟨dx0,ho0⟩:=h.ob
   have hx0:=hat.hd
   have at0:=hat.tl
   refine ag (aC ⟨_,rfl,r,dx0,_,rfl,ho0,bx _ _ _ ‹0› ‹0› ‹0›,r,lw,ws,_,op,k,rfl,h,hx0,nl hk,hk,λH0 p0 h0_=>?_⟩)
   walk_at "d"
   have o1:=o0.trans p0
   obtain⟨dx1,ho1⟩:=h0_.ob
   have hx1:=at0.hd
   have at1:=at0.tl
   refine ag (aC ⟨_,rfl,r,dx1,_,rfl,ho1,bx _ _ _ ‹0› ‹0› ‹0›,r,lw,ws,_,op,b0,_,rfl,h0_,hx1,wl (cQ hb.1 hb.2),da hb.1 hb.2 hb.1 hb.2,λH1 p1 h1_=>?_⟩)
   walk_at "d"
   have o2:=o1.trans p1
   obtain⟨dx2,ho2⟩:=h1_.ob
   have hx2:=at1.hd
   have at2:=at1.tl
   refine ag (aC ⟨_,rfl,r,dx2,_,rfl,ho2,bx _ _ _ ‹0› ‹0› ‹0›,r,lw,ws,_,op,0,f0,_,rfl,h1_,hx2,wl (cQ ‹1› ‹1›),da ‹1› ‹1› ‹1› ‹1›,λH2 p2 h2_=>?_⟩)
   walk_at "d"
   have o3:=o2.trans p2
   obtain⟨dx3,ho3⟩:=h2_.ob
   have hx3:=at2.hd
   refine aD ⟨_,rfl,_,rfl,_,rfl,_,rfl,r,dx3,_,rfl,ho3,bx _ _ _ ‹0› ‹0› ‹0›,_,rfl,r,lw,ws,_,op,f0,l0,_,rfl,h2_,hx3,wl (cQ ‹1› ‹1›),da ‹1› ‹1› ‹1› ‹1›,λH9 p9 h9=>?_⟩
   intro x dx nx nd _
   exact⟨x,_,dx,k,b0,f0,l0,rfl,fH (l:=.snc k b0 f0 l0) VQ ok (o3.trans p9) h9 nx nd q⟩
  | prt k k2 f0 l0=>
   refine ag (aH ⟨_,rfl,rfl,_,rfl,?_⟩)
   rw [show decide (V.str (bX (.prt k k2 f0 l0))=V.str ‹"number"›)=false from (show decide (V.str ‹"part"›=V.str ‹"number"›)=false from ‹0›)]
   refine aZ (aA ?_)
   dsimp only
   refine ag (aH ⟨_,rfl,rfl,_,rfl,?_⟩)
   rw [show decide (V.str (bX (.prt k k2 f0 l0))=V.str ‹"value"›)=false from (show decide (V.str ‹"part"›=V.str ‹"value"›)=false from ‹0›)]
   refine aZ (aA ?_)
   dsimp only
   refine ag (aH ⟨_,rfl,rfl,_,rfl,?_⟩)
   rw [show decide (V.str (bX (.prt k k2 f0 l0))=V.str ‹"since"›)=false from (show decide (V.str ‹"part"›=V.str ‹"since"›)=false from ‹0›)]
   refine aZ (aA ?_)
   dsimp only
   refine ag (aH ⟨_,rfl,rfl,_,rfl,?_⟩)
   refine bB ?_
   obtain⟨hk,hk2,h1,h2,h3⟩:=id ok
   have o0:Ofr r H H:=Ofr.refl
   obtain⟨dx0,ho0⟩:=h.ob
   have hx0:=hat.hd
   have at0:=hat.tl
   refine ag (aC ⟨_,rfl,r,dx0,_,rfl,ho0,bx _ _ _ ‹0› ‹0› ‹0›,r,lw,ws,_,op,k,rfl,h,hx0,nl hk,hk,λH0 p0 h0_=>?_⟩)
   walk_at "d"
   have o1:=o0.trans p0
   obtain⟨dx1,ho1⟩:=h0_.ob
   have hx1:=at0.hd
   have at1:=at0.tl
   refine ag (aC ⟨_,rfl,r,dx1,_,rfl,ho1,bx _ _ _ ‹0› ‹0› ‹0›,r,lw,ws,_,op,k2,rfl,h0_,hx1,nl hk2,hk2,λH1 p1 h1_=>?_⟩)
   walk_at "d"
   have o2:=o1.trans p1
   obtain⟨dx2,ho2⟩:=h1_.ob
   have hx2:=at1.hd
   have at2:=at1.tl
   refine ag (aC ⟨_,rfl,r,dx2,_,rfl,ho2,bx _ _ _ ‹0› ‹0› ‹0›,r,lw,ws,_,op,0,f0,_,rfl,h1_,hx2,wl (cQ ‹1› ‹1›),da ‹1› ‹1› ‹1› ‹1›,λH2 p2 h2_=>?_⟩)
   walk_at "d"
   have o3:=o2.trans p2
   obtain⟨dx3,ho3⟩:=h2_.ob
   have hx3:=at2.hd
   refine aD ⟨_,rfl,_,rfl,_,rfl,_,rfl,r,dx3,_,rfl,ho3,bx _ _ _ ‹0› ‹0› ‹0›,_,rfl,r,lw,ws,_,op,f0,l0,_,rfl,h2_,hx3,wl (cQ ‹1› ‹1›),da ‹1› ‹1› ‹1› ‹1›,λH9 p9 h9=>?_⟩
   intro x dx nx nd _
   exact⟨x,_,dx,k,k2,f0,l0,rfl,fH (l:=.prt k k2 f0 l0) VQ ok (o3.trans p9) h9 nx nd q⟩
  | chg r0 k f0 l0=>
   refine ag (aH ⟨_,rfl,rfl,_,rfl,?_⟩)
   rw [show decide (V.str (bX (.chg r0 k f0 l0))=V.str ‹"number"›)=false from (show decide (V.str ‹"change"›=V.str ‹"number"›)=false from ‹0›)]
   refine aZ (aA ?_)
   dsimp only
   refine ag (aH ⟨_,rfl,rfl,_,rfl,?_⟩)
   rw [show decide (V.str (bX (.chg r0 k f0 l0))=V.str ‹"value"›)=false from (show decide (V.str ‹"change"›=V.str ‹"value"›)=false from ‹0›)]
   refine aZ (aA ?_)
   dsimp only
   refine ag (aH ⟨_,rfl,rfl,_,rfl,?_⟩)
   rw [show decide (V.str (bX (.chg r0 k f0 l0))=V.str ‹"since"›)=false from (show decide (V.str ‹"change"›=V.str ‹"since"›)=false from ‹0›)]
   refine aZ (aA ?_)
   dsimp only
   refine ag (aH ⟨_,rfl,rfl,_,rfl,?_⟩)
   rw [show decide (V.str (bX (.chg r0 k f0 l0))=V.str ‹"part"›)=false from (show decide (V.str ‹"change"›=V.str ‹"part"›)=false from ‹0›)]
   refine aZ (aA ?_)
   dsimp only
   obtain⟨⟨r1,r2⟩,hk,h1,h2,h3⟩:=id ok
   have o0:Ofr r H H:=Ofr.refl
   obtain⟨dx0,ho0⟩:=h.ob
   have hx0:=hat.hd
   have at0:=hat.tl
   refine ag (aC ⟨_,rfl,r,dx0,_,rfl,ho0,bx _ _ _ ‹0› ‹0› ‹0›,r,lw,ws,_,op,1,400,r0,_,rfl,h,hx0,wl (cQ ‹1› ‹1›),da ‹1› ‹1› ‹1› ‹1›,λH0 p0 h0_=>?_⟩)
   walk_at "d"
   have o1:=o0.trans p0
   obtain⟨dx1,ho1⟩:=h0_.ob
   have hx1:=at0.hd
   have at1:=at0.tl
   refine ag (aC ⟨_,rfl,r,dx1,_,rfl,ho1,bx _ _ _ ‹0› ‹0› ‹0›,r,lw,ws,_,op,k,rfl,h0_,hx1,nl hk,hk,λH1 p1 h1_=>?_⟩)
   walk_at "d"
   have o2:=o1.trans p1
   obtain⟨dx2,ho2⟩:=h1_.ob
   have hx2:=at1.hd
   have at2:=at1.tl
   refine ag (aC ⟨_,rfl,r,dx2,_,rfl,ho2,bx _ _ _ ‹0› ‹0› ‹0›,r,lw,ws,_,op,0,f0,_,rfl,h1_,hx2,wl (cQ ‹1› ‹1›),da ‹1› ‹1› ‹1› ‹1›,λH2 p2 h2_=>?_⟩)
   walk_at "d"
   have o3:=o2.trans p2
   obtain⟨dx3,ho3⟩:=h2_.ob
   have hx3:=at2.hd
   refine aD ⟨_,rfl,_,rfl,_,rfl,_,rfl,r,dx3,_,rfl,ho3,bx _ _ _ ‹0› ‹0› ‹0›,_,rfl,r,lw,ws,_,op,f0,l0,_,rfl,h2_,hx3,wl (cQ ‹1› ‹1›),da ‹1› ‹1› ‹1› ‹1›,λH9 p9 h9=>?_⟩
   intro x dx nx nd _
   exact⟨x,_,dx,r0,k,f0,l0,rfl,fH (l:=.chg r0 k f0 l0) VQ ok (o3.trans p9) h9 nx nd q⟩
theorem zf {K:W.Frag}{c:Cs}{R C:Addr}{H H1:Hp}{r lw x dx:Addr}{ws:List Str}{pl:Nat}{op:Int}{n:Nat}{w:Str}{as:List Addr}{xs:List Nd}{Q:VK} (VQ:∀C∈c.all,QuC K C) (hC:C=brC c w) (hp:Paired (λa q=>cr c n q (wo H H1) a) as xs) (ok:hJ (n+1) (.brk w xs)) (h2:n<=2) (o1:Ofr r H H1) (h1:RdAt R H1 r lw ws pl op) (nx:H1 x=none) (nd:H1 dx=none)
  (q:∀x H',H x=none->Ofr r H H'->RdAt R H' r lw ws pl op->cr c (n+1) (.brk w xs) (wo H H') x->Q (.ref x) H'):KidI K c x C dx n w as xs (upd (upd H1 dx (.own x)) x (.ins C dx [])) (λv H2=>v=.non/\Q (.ref x) H2):=by
 have gu:bh H1 (upd (upd H1 dx (.own x)) x (.ins C dx [])):=λb u e=>by rw [ah (ai e nx),ah (ai e nd)];exact e
 refine⟨by rw [hC];exact VQ _ (qv c w),aj,Paired.mono (λa q0 h=>cr.keep (Kq.grow (bh.trans t8 gu)) h) hp,ok,h2,λln lj H' nl nj o el ej ex=>⟨rfl,?_⟩⟩
 obtain⟨g,h'⟩:=h1.made nx nd o
 have f0:∀b,upd (upd H1 dx (.own x)) x (.ins C dx []) b=none->H b=none:=λb hb=>h1.free o1 (bW gu hb)
 rw [hC]at ex
 exact q x H' (h1.free o1 nx) (λb u e n=>g _ _ (o1 _ _ e n)) h' (BrX.mk dx ln lj as (by rw [eC (h1.free o1 nx)];exact ex) (by rw [eC (f0 _ nl)];exact el) (by rw [eC (f0 _ nj)];exact ej) (Paired.mono (λa q0 h=>cr.keep (Kq.grow (iN λb u _ e=>g _ _ e)) h) hp))
noncomputable def fq (n:Nat) (q:Nd):List Str:=opS::(aW n q++[clS])
inductive QhI (c:Cs) (R:Addr) (n:Nat) (nd:Nd) (r:Addr) (H:Hp) (Q:VK):Prop
 | mk (lw:Addr) (ws:List Str) (pl:Nat) (op:Int) (ok:hJ n nd) (h:RdAt R H r lw ws pl op) (hat:At ws pl (aW n nd)) (hop:op+n<=3) (hn:n<=3) (q:∀x H',H x=none->Ofr r H H'->RdAt R H' r lw ws (pl+(aW n nd).length) op->cr c n nd (wo H H') x->Q (.ref x) H'):QhI c R n nd r H Q
noncomputable def tU (c:Cs) (R:Addr) (n:Nat):Sp:=λvs H Q _=>∃(r:Addr) (nd:Nd),vs=[.ref r]/\QhI c R n nd r H Q
inductive QsI (c:Cs) (R:Addr) (n:Nat) (xs:List Nd) (r:Addr) (H:Hp) (Q:VK):Prop
 | mk (m:Nat) (lw:Addr) (ws:List Str) (pl:Nat) (op:Int) (hm:n=m+1) (ok:∀x∈xs,hJ m x) (h4:xs.length<=4) (h:RdAt R H r lw ws pl op) (hat:At ws pl (xs.flatMap (fq m))) (hop:op+n<=3) (hn:n<=3) (q:∀li as H',H li=none->Ofr r H H'->RdAt R H' r lw ws (pl+(xs.flatMap (fq m)).length) op->H' li=some (.lst (as.map V.ref))->Paired (λa q=>cr c m q (wo H H') a) as xs->Q (.ref li) H'):QsI c R n xs r H Q
noncomputable def nh (c:Cs) (R:Addr) (n:Nat):Sp:=λvs H Q _=>∃(r:Addr) (xs:List Nd),vs=[.ref r,.int (xs.length:Int)]/\QsI c R n xs r H Q
theorem oz {l:Lf} (h:¬rH l):bX l∉eQ/\bX l∉eW/\bX l∉fO/\bX l∈iJ:=by
 cases l with
 | gth=>exact absurd True.intro h
 | num=>exact⟨(by show ‹"number"›∉eQ;decide +kernel),(by show ‹"number"›∉eW;decide +kernel),(by show ‹"number"›∉fO;decide +kernel),(by show ‹"number"›∈iJ;decide +kernel)⟩
 | val=>exact⟨(by show ‹"value"›∉eQ;decide +kernel),(by show ‹"value"›∉eW;decide +kernel),(by show ‹"value"›∉fO;decide +kernel),(by show ‹"value"›∈iJ;decide +kernel)⟩
 | snc=>exact⟨(by show ‹"since"›∉eQ;decide +kernel),(by show ‹"since"›∉eW;decide +kernel),(by show ‹"since"›∉fO;decide +kernel),(by show ‹"since"›∈iJ;decide +kernel)⟩
 | prt=>exact⟨(by show ‹"part"›∉eQ;decide +kernel),(by show ‹"part"›∉eW;decide +kernel),(by show ‹"part"›∉fO;decide +kernel),(by show ‹"part"›∈iJ;decide +kernel)⟩
 | chg=>exact⟨(by show ‹"change"›∉eQ;decide +kernel),(by show ‹"change"›∉eW;decide +kernel),(by show ‹"change"›∉fO;decide +kernel),(by show ‹"change"›∈iJ;decide +kernel)⟩
theorem qt:(∀w∈eW,w∉eQ)/\(∀w∈fO,w∉eQ/\w∉eW):=‹0›
theorem rW:FnScope ["reader", "word", "keys", "first", "inner"] ["reader"] (aq sQh):=‹2›
theorem zd {c:Cs}{n:Nat}{f f1 f2 f3 f4 f5 f6 f7 f8 R:Addr}{fd:FuncData} (F:Fun K "question_here" "question_here" sQh f fd) (N:Free mg) (ZT:ConT K mg) (VQ:∀C∈c.all,QuC K C){fd1:FuncData} (MB:MC P w K mg base R "beginning_here" 2 ["self"] [] [] (qK R) f1 fd1){fd2:FuncData} (MD:MC P w K mg base R "day_here" 4 ["self", "earliest"] [] [] (jo R) f2 fd2){fd3:FuncData} (ME:MC P w K mg base R "keys_here" 4 ["self"] [] [] (iP R) f3 fd3){fd4:FuncData} (CS:Cal P w K mg base "questions_here" (2 * n+5) ["reader", "count"] (nh c R n) f4 fd4){fd5:FuncData} (CG:Cal P w K mg base "single_here" 5 ["reader", "word"] (gC c R) f5 fd5){fd6:FuncData} (KGth:MkC P w K mg base "Gathering" 3 ["self", "word", "keys", "first", "last"] (lT K) c.gth f6 fd6){fd7:FuncData} (KRck:MkC P w K mg base "Reckoning" 4 ["self", "word", "one", "other"] (iQ K c) c.rck f7 fd7){fd8:FuncData} (KChc:MkC P w K mg base "Choice" 4 ["self", "word", "one", "other", "chosen", "otherwise"] (iR K c) c.chc f8 fd8):FnOk P w K mg base CX0 (2 * n+6) f fd ["reader"] (tU c R n):=by
 obtain⟨a2,c2,q2⟩:=ZT.gth
 obtain⟨a3,c3,q3⟩:=ZT.rck
 obtain⟨a4,c4,q4⟩:=ZT.chc
 refine F.ok (k:=2 * n+5) rW (λvs H Q E h=>?_) (λcdv A outer s H vs Q E hr h=>?_)
 ·obtain⟨r,nd,rfl,_⟩:=h
  rfl
 ·obtain⟨r,nd,rfl,lw,ws,pl,op,ok,h,hat,hop,hn,q⟩:=h
  have hu:=aL hr
  refine⟨_,(af (aE (i:=1) rW.nd rfl (Or.inl rfl) (bw (pv 0) MB.cl MB.mt MB.ok (hr.mono ‹1›) MB.bd MB.dv av))
   (af (bt (aK cG (pv 1) (bI (v:=.ref a2) (by rfl) c2 rfl) (by with_unfolding_all rfl)) (af (aE (i:=2) rW.nd rfl (Or.inl rfl) (bw (pv 0) ME.cl ME.mt ME.ok (hr.mono ‹1›) ME.bd ME.dv av))
   (af (aE (i:=3) rW.nd rfl (Or.inl rfl) (bH (pv 0) MD.cl MD.mt MD.ok (hr.mono ‹1›) MD.bd MD.dv av (aa au ae)))
   (ao (ay (dh KGth.km KGth.ok (hr.mono ‹1›) rfl KGth.nm KGth.bd .nil av (aa (pv 1) (aa (pv 2) (aa (pv 3) (aa (bH (pv 0) MD.cl MD.mt MD.ok (hr.mono ‹1›) MD.bd MD.dv av (aa (pv 3) ae)) ae))))))))) aI)
   (af (bt (aK cG (pv 1) (bI (v:=.ref a3) (by rfl) c3 rfl) (by with_unfolding_all rfl)) (af (aE (i:=4) rW.nd rfl (Or.inl rfl) (aw CS.ok (hr.mono ‹1›) rfl CS.nm CS.kp CS.bd .nil av (aa (pv 0) (aa au ae))))
   (ao (ay (dh KRck.km KRck.ok (hr.mono ‹1›) rfl KRck.nm KRck.bd .nil av (aa (pv 1) (aa (bn br (pv 4) au (λ_ _=>rfl)) (aa (bn br (pv 4) au (λ_ _=>rfl)) ae))))))) aI)
   (af (bt (aK cG (pv 1) (bI (v:=.ref a4) (by rfl) c4 rfl) (by with_unfolding_all rfl)) (af (aE (i:=4) rW.nd rfl (Or.inl rfl) (aw CS.ok (hr.mono ‹1›) rfl CS.nm CS.kp CS.bd .nil av (aa (pv 0) (aa au ae))))
   (ao (ay (dh KChc.km KChc.ok (hr.mono ‹1›) rfl KChc.nm KChc.bd .nil av (aa (pv 1) (aa (bn br (pv 4) au (λ_ _=>rfl)) (aa (bn br (pv 4) au (λ_ _=>rfl)) (aa (bn br (pv 4) au (λ_ _=>rfl)) (aa (bn br (pv 4) au (λ_ _=>rfl)) ae))))))))) aI)
   (ao (ay (aw CG.ok (hr.mono ‹1›) rfl CG.nm CG.kp CG.bd .nil av (aa (pv 0) (aa (pv 1) ae))))))))),?_⟩
  obtain⟨dx0,ho0⟩:=h.ob
  have hw:∃w0 r0,aW n nd=w0::r0/\(w0∈iJ\/w0∈eQ\/w0∈eW\/w0∈fO):=by
   cases nd with
   | leaf l=>
    by_cases z:rH l
    ·cases l with
     | gth w ks f0 l0=>exact⟨w,_,gz _ _,.inr (.inl (qW ok).1)⟩
     | _=>exact absurd z id
    ·exact⟨bX l,gy l,by rw [gz,tz],.inl (oz z).2.2.2⟩
   | brk w xs=>
    cases n with
    | zero=>exact(show False from ok).elim
    | succ m=>
     obtain⟨h1,_⟩:_/\_:=ok
     exact⟨w,_,rfl,h1.elim (λz=>.inr (.inr (.inl z.1))) λz=>.inr (.inr (.inr z.1))⟩
  obtain⟨w0,r0,ew,hw⟩:=hw
  have hx0:=At.hd (by rw [ew]at hat;exact hat)
  have at0:=At.tl (by rw [ew]at hat;exact hat)
  refine ag (aC ⟨_,rfl,r,dx0,_,rfl,ho0,bx _ _ _ ‹0› ‹0› ‹0›,r,lw,ws,pl,op,w0,rfl,h,hx0,hw,λH1 o1 h1=>?_⟩)
  walk_at "d"
  cases nd with
  | leaf l=>
   have okl:=qW ok
   rw [gz]at ew q
   by_cases z:rH l
   ·cases l with
    | gth w ks f0 l0=>
     obtain⟨rfl,rfl⟩:=List.cons.inj (show w::[jc ks,si f0,si l0]=w0::r0 from ew)
     obtain⟨hg,⟨k1,k8,knd,hk⟩,d1,d2,d3⟩:=id okl
     refine ag (aH ⟨_,rfl,a2,_,rfl,.inr (q2 _),rfl,bD _,?_⟩)
     rw [if_neg Bool.false_ne_true,bP]
     refine⟨_,rfl,?_⟩
     rw [decide_eq_true hg]
     refine bB ?_
     obtain⟨dx1,ho1⟩:=h1.ob
     refine ag (aC ⟨_,rfl,r,dx1,_,rfl,ho1,bx _ _ _ ‹0› ‹0› ‹0›,r,lw,ws,_,op,ks,rfl,h1,at0.hd,Nat.le_of_lt (wl (zi k1 k8 hk)),k1,k8,knd,λk m=>⟨hk k m,nl (hk k m)⟩,λlk H2 nlk o2 elk h2=>?_⟩)
     walk_at "d"
     obtain⟨dx2,ho2⟩:=h2.ob
     have at1:=at0.tl
     refine ag (aC ⟨_,rfl,r,dx2,_,rfl,ho2,bx _ _ _ ‹0› ‹0› ‹0›,r,lw,ws,_,op,0,f0,_,rfl,h2,at1.hd,wl (cQ ‹1› ‹1›),da ‹1› ‹1› ‹1› ‹1›,λH3 o3 h3=>?_⟩)
     walk_at "d"
     obtain⟨dx3,ho3⟩:=h3.ob
     have at2:=at1.tl
     have elk3:=o3 _ _ elk (cR elk ho2 (λz=>nomatch z))
     refine aD ⟨_,rfl,_,rfl,_,rfl,_,rfl,r,dx3,_,rfl,ho3,bx _ _ _ ‹0› ‹0› ‹0›,_,rfl,r,lw,ws,_,op,f0,l0,_,rfl,h3,at2.hd,wl (cQ ‹1› ‹1›),da ‹1› ‹1› ‹1› ‹1›,λH4 o4 h4=>?_⟩
     intro x dx nx nd _
     have elk4:=o4 _ _ elk3 (cR elk3 ho3 (λz=>nomatch z))
     refine⟨x,_,dx,w,lk,f0,l0,ks,rfl,?_,fH (l:=.gth w ks f0 l0) VQ okl (o1.trans (o2.trans (o3.trans o4))) h4 nx nd λx H' nx o h l=>q x H' nx o h (mf.mpr l)⟩
     rw [ah (ai elk4 nx),ah (ai elk4 nd)];exact elk4
    | _=>exact absurd z id
   ·obtain⟨z1,z2,z3,_⟩:=oz z
    rw [tz]at ew
    obtain⟨rfl,rfl⟩:=List.cons.inj ew
    refine ag (aH ⟨_,rfl,a2,_,rfl,.inr (q2 _),rfl,bD _,?_⟩)
    rw [if_neg Bool.false_ne_true,bP]
    refine⟨_,rfl,?_⟩
    rw [decide_eq_false z1]
    refine aZ (aA ?_)
    dsimp only
    refine ag (aH ⟨_,rfl,a3,_,rfl,.inr (q3 _),rfl,bD _,?_⟩)
    rw [if_neg Bool.false_ne_true,bP]
    refine⟨_,rfl,?_⟩
    rw [decide_eq_false z2]
    refine aZ (aA ?_)
    dsimp only
    refine ag (aH ⟨_,rfl,a4,_,rfl,.inr (q4 _),rfl,bD _,?_⟩)
    rw [if_neg Bool.false_ne_true,bP]
    refine⟨_,rfl,?_⟩
    rw [decide_eq_false z3]
    refine aZ (aA ?_)
    dsimp only
    refine aD ⟨_,rfl,_,rfl,r,l,rfl,lw,ws,_,op,okl,z,h1,at0,λx H' nx o h lx=>?_⟩
    rw [show pl+1+(gy l).length=pl+(aP l).length from by rw [tz l,List.length_cons];omega]at h
    exact q x H' (h1.free o1 nx) (o1.trans o) h (mf.mpr (lx.keep (Kq.grow (hZ (H0:=H) λb hb=>h1.free o1 hb))))
  | brk w xs=>
   cases n with
   | zero=>exact(show False from ok).elim
   | succ m=>
    obtain⟨rfl,rfl⟩:=List.cons.inj (show w::xs.flatMap (fq m)=w0::r0 from ew)
    obtain⟨hb,hxs⟩:_/\_:=id ok
    have h4:=j9 hb
    have hq:∀x H',H x=none->Ofr r H H'->RdAt R H' r lw ws (pl+1+(xs.flatMap (fq m)).length) op->cr c (m+1) (.brk w xs) (wo H H') x->Q (.ref x) H':=λx H' nx o h=>by
     rw [show pl+1+(xs.flatMap (fq m)).length=pl+(aW (m+1) (.brk w xs)).length from by show _=pl+(w::xs.flatMap (fq m)).length;rw [List.length_cons];omega]at h
     exact q x H' nx o h
    rcases hb with⟨hb,hl⟩ | ⟨hb,hl⟩
    ·have zg:=qt.1 w hb
     refine ag (aH ⟨_,rfl,a2,_,rfl,.inr (q2 _),rfl,bD _,?_⟩)
     rw [if_neg Bool.false_ne_true,bP]
     refine⟨_,rfl,?_⟩
     rw [decide_eq_false zg]
     refine aZ (aA ?_)
     dsimp only
     refine ag (aH ⟨_,rfl,a3,_,rfl,.inr (q3 _),rfl,bD _,?_⟩)
     rw [if_neg Bool.false_ne_true,bP]
     refine⟨_,rfl,?_⟩
     rw [decide_eq_true hb]
     refine bB ?_
     refine ag (aC ⟨_,rfl,r,xs,(by rw [hl];rfl),m,lw,ws,_,op,rfl,hxs,h4.2,h1,at0,hop,hn,λli as H2 nli o2 h2 eli hp=>?_⟩)
     walk_at "d"
     have hal:=dB hp
     rw [hl]at hal
     match as,hal,hp,eli with
     | [b1,b2],_,hp,eli=>
      refine aD ⟨_,rfl,_,rfl,li,_,0,_,rfl,rfl,SqL.of eli,rfl,_,rfl,li,_,1,_,rfl,rfl,SqL.of eli,rfl,?_⟩
      intro x dx nx nd _
      refine⟨x,_,dx,b1,b2,w,m,xs,rfl,zf VQ ?_ (Paired.mono (λa q0 h=>cr.keep (Kq.grow (hZ (H0:=H) λb hb=>h1.free o1 hb)) h) hp) ok ‹1› (o1.trans o2) h2 nx nd hq⟩
      unfold brC
      rw [if_pos hb]
    ·obtain⟨zg,zr⟩:=qt.2 w hb
     refine ag (aH ⟨_,rfl,a2,_,rfl,.inr (q2 _),rfl,bD _,?_⟩)
     rw [if_neg Bool.false_ne_true,bP]
     refine⟨_,rfl,?_⟩
     rw [decide_eq_false zg]
     refine aZ (aA ?_)
     dsimp only
     refine ag (aH ⟨_,rfl,a3,_,rfl,.inr (q3 _),rfl,bD _,?_⟩)
     rw [if_neg Bool.false_ne_true,bP]
     refine⟨_,rfl,?_⟩
     rw [decide_eq_false zr]
     refine aZ (aA ?_)
     dsimp only
     refine ag (aH ⟨_,rfl,a4,_,rfl,.inr (q4 _),rfl,bD _,?_⟩)
     rw [if_neg Bool.false_ne_true,bP]
     refine⟨_,rfl,?_⟩
     rw [decide_eq_true hb]
     refine bB ?_
     refine ag (aC ⟨_,rfl,r,xs,(by rw [hl];rfl),m,lw,ws,_,op,rfl,hxs,h4.2,h1,at0,hop,hn,λli as H2 nli o2 h2 eli hp=>?_⟩)
     walk_at "d"
     have hal:=dB hp
     rw [hl]at hal
     match as,hal,hp,eli with
     | [b1,b2,b3,b4],_,hp,eli=>
      refine aD ⟨_,rfl,_,rfl,li,_,0,_,rfl,rfl,SqL.of eli,rfl,_,rfl,li,_,1,_,rfl,rfl,SqL.of eli,rfl,_,rfl,li,_,2,_,rfl,rfl,SqL.of eli,rfl,_,rfl,li,_,3,_,rfl,rfl,SqL.of eli,rfl,?_⟩
      intro x dx nx nd _
      refine⟨x,_,dx,b1,b2,b3,b4,w,m,xs,rfl,zf VQ ?_ (Paired.mono (λa q0 h=>cr.keep (Kq.grow (hZ (H0:=H) λb hb=>h1.free o1 hb)) h) hp) ok ‹1› (o1.trans o2) h2 nx nd hq⟩
      unfold brC
      rw [if_neg (qt.2 w hb).2]
inductive QsW' (c:Cs) (R r lw li:Addr) (ws:List Str) (pl:Nat) (op:Int) (n:Nat) (xs:List Nd) (H H1:Hp) (i:Nat) (σ:St) (H2:Hp):Prop
 | mk (as:List Addr) (h0:i<=xs.length) (h1:σ=[some (.ref r),some (.int (xs.length:Int)),some (.ref li)]) (h2:Ofr r H H2) (h3:∀b o,H1 b=some o->b≠r->b≠li->H2 b=some o) (h4:RdAt R H2 r lw ws (pl+((xs.take i).flatMap (fq n)).length) op) (h5:H2 li=some (.lst (as.map V.ref))) (h6:Paired (λa q=>cr c n q (wo H1 H2) a) as (xs.take i)):QsW' c R r lw li ws pl op n xs H H1 i σ H2
inductive QsW (c:Cs) (R r lw li:Addr) (ws:List Str) (pl:Nat) (op:Int) (n:Nat) (xs:List Nd) (H H1:Hp) (m:Nat) (σ:St) (H2:Hp):Prop
 | mk (i:Nat) (as:List Addr) (hm:m=xs.length - i) (h0:i<=xs.length) (h1:σ=[some (.ref r),some (.int (xs.length:Int)),some (.ref li)]) (h2:Ofr r H H2) (h3:∀b o,H1 b=some o->b≠r->b≠li->H2 b=some o) (h4:RdAt R H2 r lw ws (pl+((xs.take i).flatMap (fq n)).length) op) (h5:H2 li=some (.lst (as.map V.ref))) (h6:Paired (λa q=>cr c n q (wo H1 H2) a) as (xs.take i)):QsW c R r lw li ws pl op n xs H H1 m σ H2
theorem yS:FnScope ["reader", "count", "inner"] ["reader", "count"] (aq uv):=‹2›
theorem Az {c:Cs}{n:Nat}{f f1 f2 f3 R:Addr}{fd:FuncData} (F:Fun K "questions_here" "questions_here" uv f fd) (N:Free mg){fd1:FuncData} (MO:MC P w K mg base R "bracket_opens" 2 ["self"] [] [] (iO R) f1 fd1){fd2:FuncData} (MX:MC P w K mg base R "bracket_closes" 2 ["self"] [] [] (gD R) f2 fd2){fd3:FuncData} (CQ:Cal P w K mg base "question_here" (2 * n+6) ["reader"] (tU c R n) f3 fd3):FnOk P w K mg base CX0 (2 * n+7) f fd ["reader", "count"] (nh c R (n+1)):=by
 refine F.ok (k:=2 * n+6) yS (λvs H Q E h=>?_) (λcdv A outer s H vs Q E hr h=>?_)
 ·obtain⟨r,xs,rfl,_⟩:=h
  rfl
 ·obtain⟨r,xs,rfl,m,lw,ws,pl,op,hm,ok,h4,h,hat,hop,hn,q⟩:=h
  have hu:=aL hr
  refine⟨_,(af (aE (i:=2) yS.nd rfl (Or.inl rfl) (aR ae))
   (af (uZ PassesOwn.never (aK nN (aG aO (by rfl) N.len PySem.boot_len (aa (pv 2) ae)) (pv 1) (aS _)) (af (aY (bw (pv 0) MO.cl MO.mt MO.ok (hr.mono ‹1›) MO.bd MO.dv av))
   (af (aY (cK PySem.F.plainAttrs_list PySem.F.slot_list_append PySem.F.type_list_append du (pv 2) (aa (aw CQ.ok (hr.mono ‹1›) rfl CQ.nm CQ.kp CQ.bd .nil av (aa (pv 0) ae)) ae)))
   (ao (aY (bw (pv 0) MX.cl MX.mt MX.ok (hr.mono ‹1›) MX.bd MX.dv av))))))
   (ao (ay (pv 2))))),?_⟩
  have okm:n=m:=Nat.succ.inj hm
  subst okm
  refine ag (aC ⟨by show 0<=sizeLine;decide,λli nli=>?_⟩)
  walk_at "d"
  obtain⟨g1,e1⟩:=laid (o:=.lst []) nli
  have h1:=h.keep g1
  generalize upd H li _=H1 at g1 e1 h1 ⊢
  refine ag (uT (QsW c R r lw li ws pl op n xs H H1) (m:=xs.length) ⟨0,[],rfl,Nat.zero_le _,rfl,λb o e nb=>g1 _ _ e,λb o e _ _=>e,h1,e1,.nil⟩ λmm σ H2 hh=>?_)
  obtain⟨i,as,rfl,hi,rfl,o2,k2,h2,e2,hp⟩:=hh
  have hal:=dB hp
  rw [List.length_take,Nat.min_eq_left hi]at hal
  refine⟨_,rfl,li,_,rfl,.inl (SqL.of e2),_,rfl,_,_,rfl,rfl,_,rfl,?_⟩
  rw [List.length_map,hal]
  by_cases hlt:i < xs.length
  ·rw [decide_eq_true ‹1›]
   refine bB ⟨QsW' c R r lw li ws pl op n xs H H1 (i+1),λσ' H' hh=>?_,?_⟩
   ·obtain⟨as',z1,z2,z3,z4,z5,z6,z7⟩:=hh
    exact⟨xs.length - (i+1),by omega,i+1,as',rfl,z1,z2,z3,z4,z5,z6,z7⟩
   have hx:xs[i]?=some xs[i]:=List.getElem?_eq_getElem hlt
   have et:xs.take (i+1)=xs.take i++[xs[i]]:=by rw [List.take_add_one,hx];rfl
   have hsp:xs=xs.take i++xs[i]::xs.drop (i+1):=by
    have:=List.take_append_drop i xs
    rw [List.drop_eq_getElem_cons hlt]at this
    exact this.symm
   have at1:At ws (pl+((xs.take i).flatMap (fq n)).length) (opS::(aW n xs[i]++([clS]++(xs.drop (i+1)).flatMap (fq n)))):=by
    have:=hat
    rw [hsp,List.flatMap_append,List.flatMap_cons]at this
    have:=(At.app this).2
    rw [show fq n xs[i]++(xs.drop (i+1)).flatMap (fq n)=opS::(aW n xs[i]++([clS]++(xs.drop (i+1)).flatMap (fq n))) from by show opS::(aW n xs[i]++[clS])++_=_;rw [List.cons_append,List.append_assoc]]at this
    exact this
   have okx:=ok xs[i] (List.getElem_mem hlt)
   have nlr:li≠r:=λz=>by obtain⟨d,e⟩:=h.ob;rw [z,e]at nli;cases nli
   obtain⟨dx2,ho2⟩:=h2.ob
   refine ag (aX ⟨_,rfl,r,dx2,_,rfl,ho2,bx _ _ _ ‹0› ‹0› ‹0›,r,lw,ws,_,op,rfl,h2,at1.hd,by omega,λH3 o3 h3=>?_⟩)
   have at2:=at1.tl
   have e3:=o3 _ _ e2 nlr
   obtain⟨at3,at4⟩:=at2.app
   dsimp only
   refine ag (aX ⟨_,rfl,.inl ⟨rfl,_,SqL.of e3⟩,?_⟩)
   refine eF ⟨_,rfl,r,xs[i],rfl,lw,ws,_,op+1,okx,h3,at3,by omega,by omega,λx H4 nx o4 h4 qn=>?_⟩
   have e4:=o4 _ _ e3 nlr
   refine⟨li,_,_,rfl,rfl,e4,?_,?_⟩
   ·rw [List.length_map,hal];exact bj ‹1›
   have h5:RdAt R (upd H4 li (.lst (as.map V.ref++[.ref x]))) r lw ws (pl+((xs.take i).flatMap (fq n)).length+1+(aW n xs[i]).length) (op+1):=by
    obtain⟨d,e⟩:=h4.ob
    refine⟨⟨d,by rw [ah (Ne.symm nlr)];exact e⟩,?_⟩
    rw [ah (ai h.wd nli)];exact h4.wd
   generalize hH5:upd H4 li _=H5 at h5
   have e5:H5 li=some (.lst ((as++[x]).map V.ref)):=by rw [<- hH5,aj,List.map_append];rfl
   have k5:∀b o,H4 b=some o->b≠li->H5 b=some o:=λb o e nb=>by rw [<- hH5,ah nb];exact e
   dsimp only
   obtain⟨dx5,ho5⟩:=h5.ob
   refine aX ⟨_,rfl,r,dx5,_,rfl,ho5,bx _ _ _ ‹0› ‹0› ‹0›,r,lw,ws,_,op+1,rfl,h5,at4.hd,λH6 o6 h6=>?_⟩
   refine⟨as++[x],by omega,rfl,λb o e nb=>?_,λb o e n1 n2=>?_,?_,o6 _ _ e5 nlr,?_⟩
   ·exact o6 _ _ (k5 _ _ (o4 _ _ (o3 _ _ (o2 _ _ e nb) nb) nb) (ai e nli)) nb
   ·exact o6 _ _ (k5 _ _ (o4 _ _ (o3 _ _ (k2 _ _ e n1 n2) n1) n1) n2) n1
   ·rw [show op+1 - 1=op from by omega]at h6
    rw [et,List.flatMap_append,List.length_append,List.flatMap_cons,List.flatMap_nil,List.append_nil]
    rw [show pl+(((xs.take i).flatMap (fq n)).length+(fq n xs[i]).length)=pl+((xs.take i).flatMap (fq n)).length+1+(aW n xs[i]).length+1 from by show _+(_+(opS::(_++[clS])).length)=_;rw [List.length_cons,List.length_append,List.length_singleton];omega]
    exact h6
   ·rw [et]
    have kk:∀b o,H1 b=none->H4 b=some o->H6 b=some o:=λb o n e=>o6 _ _ (k5 _ _ e (λz=>by rw [z,e1]at n;cases n)) (λz=>by obtain⟨d,er⟩:=h1.ob;rw [z,er]at n;cases n)
    refine Paired.snoc (Paired.mono (λa q0 hq0=>cr.keep (Kq.grow (iN λb o n e=>?_)) hq0) hp) (cr.keep (Kq.grow (bh.trans (hZ (H0:=H1) λb hb=>?_) (iN kk))) qn)
    ·exact kk _ _ n (o4 _ _ (o3 _ _ e (λz=>by obtain⟨d,er⟩:=h1.ob;rw [z,er]at n;cases n)) (λz=>by obtain⟨d,er⟩:=h1.ob;rw [z,er]at n;cases n))
    ·cases e:H1 b with
     | none=>rfl
     | some o=>
      by_cases zr:b=r
      ·obtain⟨d,er⟩:=h3.ob
       rw [zr,er]at hb;cases hb
      ·by_cases zl:b=li
       ·rw [zl,e3]at hb;cases hb
       ·rw [o3 _ _ (k2 _ _ e zr zl) zr]at hb;cases hb
  ·have:i=xs.length:=by omega
   subst this
   rw [decide_eq_false ‹1›]
   rw [List.take_length]at h2 hp
   refine aZ (aD ⟨_,rfl,q li as H2 nli o2 h2 e2 (Paired.mono (λa q0 hq0=>cr.keep (Kq.grow (hZ (H0:=H) λb hb=>bW g1 hb)) hq0) hp)⟩)
noncomputable def yO (c:Cs) (R:Addr):Sp:=λvs H Q E=>∃n,n<=3/\tU c R n vs H Q E
theorem uW {c:Cs}{f f1 f2 f3 f4 f5 f6 f7 f8 f9 f10 R:Addr}{fd:FuncData} (Fq:Fun K "question_here" "question_here" sQh f fd) (nq:mg "question_here" = some (.ref f)) (bq:cj K fd ["reader"] []){fd4:FuncData} (Fs:Fun K "questions_here" "questions_here" uv f4 fd4) (ns:mg "questions_here" = some (.ref f4)) (bs:cj K fd4 ["reader", "count"] []) (N:Free mg) (ZT:ConT K mg) (VQ:∀C∈c.all,QuC K C){fd1:FuncData} (MB:MC P w K mg base R "beginning_here" 2 ["self"] [] [] (qK R) f1 fd1){fd2:FuncData} (MD:MC P w K mg base R "day_here" 4 ["self", "earliest"] [] [] (jo R) f2 fd2){fd3:FuncData} (ME:MC P w K mg base R "keys_here" 4 ["self"] [] [] (iP R) f3 fd3){fd5:FuncData} (CG:Cal P w K mg base "single_here" 5 ["reader", "word"] (gC c R) f5 fd5){fd6:FuncData} (KGth:MkC P w K mg base "Gathering" 3 ["self", "word", "keys", "first", "last"] (lT K) c.gth f6 fd6){fd7:FuncData} (KRck:MkC P w K mg base "Reckoning" 4 ["self", "word", "one", "other"] (iQ K c) c.rck f7 fd7){fd8:FuncData} (KChc:MkC P w K mg base "Choice" 4 ["self", "word", "one", "other", "chosen", "otherwise"] (iR K c) c.chc f8 fd8){fd9:FuncData} (MO:MC P w K mg base R "bracket_opens" 2 ["self"] [] [] (iO R) f9 fd9){fd10:FuncData} (MX:MC P w K mg base R "bracket_closes" 2 ["self"] [] [] (gD R) f10 fd10) :
  ∀n,Cal P w K mg base "questions_here" (2 * n+5) ["reader", "count"] (nh c R n) f4 fd4/\Cal P w K mg base "question_here" (2 * n+6) ["reader"] (tU c R n) f fd
 | 0=>by
  have a:Cal P w K mg base "questions_here" (2 * 0+5) ["reader", "count"] (nh c R 0) f4 fd4:=⟨FnOk.no (λvs H Q E h=>by obtain⟨r,xs,_,m,_,_,_,_,hm,_⟩:=h;cases hm),ns,Fs.kp,bs⟩
  exact⟨a,zd Fq N ZT VQ MB MD ME a CG KGth KRck KChc,nq,Fq.kp,bq⟩
 | n+1=>by
  obtain⟨_,h2⟩:=uW Fq nq bq Fs ns bs N ZT VQ MB MD ME CG KGth KRck KChc MO MX n
  have a:Cal P w K mg base "questions_here" (2 * (n+1)+5) ["reader", "count"] (nh c R (n+1)) f4 fd4:=⟨Az Fs N MO MX h2,ns,Fs.kp,bs⟩
  exact⟨a,zd Fq N ZT VQ MB MD ME a CG KGth KRck KChc,nq,Fq.kp,bq⟩
theorem AB {c:Cs}{f f1 f2 f3 f4 f5 f6 f7 f8 f9 f10 R:Addr}{fd:FuncData} (Fq:Fun K "question_here" "question_here" sQh f fd) (nq:mg "question_here" = some (.ref f)) (bq:cj K fd ["reader"] []){fd4:FuncData} (Fs:Fun K "questions_here" "questions_here" uv f4 fd4) (ns:mg "questions_here" = some (.ref f4)) (bs:cj K fd4 ["reader", "count"] []) (N:Free mg) (ZT:ConT K mg) (VQ:∀C∈c.all,QuC K C){fd1:FuncData} (MB:MC P w K mg base R "beginning_here" 2 ["self"] [] [] (qK R) f1 fd1){fd2:FuncData} (MD:MC P w K mg base R "day_here" 4 ["self", "earliest"] [] [] (jo R) f2 fd2){fd3:FuncData} (ME:MC P w K mg base R "keys_here" 4 ["self"] [] [] (iP R) f3 fd3){fd5:FuncData} (CG:Cal P w K mg base "single_here" 5 ["reader", "word"] (gC c R) f5 fd5){fd6:FuncData} (KGth:MkC P w K mg base "Gathering" 3 ["self", "word", "keys", "first", "last"] (lT K) c.gth f6 fd6){fd7:FuncData} (KRck:MkC P w K mg base "Reckoning" 4 ["self", "word", "one", "other"] (iQ K c) c.rck f7 fd7){fd8:FuncData} (KChc:MkC P w K mg base "Choice" 4 ["self", "word", "one", "other", "chosen", "otherwise"] (iR K c) c.chc f8 fd8){fd9:FuncData} (MO:MC P w K mg base R "bracket_opens" 2 ["self"] [] [] (iO R) f9 fd9){fd10:FuncData} (MX:MC P w K mg base R "bracket_closes" 2 ["self"] [] [] (gD R) f10 fd10) :
  FnOk P w K mg base CX0 12 f fd ["reader"] (yO c R):=FnOk.ex (sp:=tU c R) (N:=3) λn hn=>FnOk.mono (uW Fq nq bq Fs ns bs N ZT VQ MB MD ME CG KGth KRck KChc MO MX n).2.ok ‹1›
inductive QoI (c:Cs) (n:Nat) (nd:Nd) (H:Hp) (Q:VK):Prop
 | mk (ok:hJ n nd) (hn:n<=3) (q:∀x H',H x=none->bh H H'->cr c n nd (wo H H') x->Q (.ref x) H'):QoI c n nd H Q
noncomputable def yN (c:Cs):Sp:=λvs H Q _=>∃(n:Nat) (nd:Nd),vs=[.str (jn (aW n nd))]/\QoI c n nd H Q
theorem uh:FnScope ["text", "reader", "question"] ["text"] (aq A8):=‹2›
theorem AA {c:Cs}{f f1 f2 f3 R:Addr}{fd:FuncData} (F:Fun K "question_of" "question_of" A8 f fd) (N:Free mg){fd1:FuncData} (KR:MkC P w K mg base "Reader" 1 ["self", "text"] (qJ R) R f1 fd1){fd2:FuncData} (CQ:Cal P w K mg base "question_here" 12 ["reader"] (yO c R) f2 fd2){fd3:FuncData} (MZ:MC P w K mg base R "check_end" 1 ["self"] [] [] (yQ R) f3 fd3):FnOk P w K mg base CX0 13 f fd ["text"] (yN c):=by
 refine F.ok (k:=12) uh (λvs H Q E h=>?_) (λcdv A outer s H vs Q E hr h=>?_)
 ·obtain⟨n,nd,rfl,_⟩:=h
  rfl
 ·obtain⟨n,nd,rfl,ok,hn,q⟩:=h
  have hu:=aL hr
  refine⟨_,(af (bt (gh (eG (aG cH (by rfl) N.isinstance PyProof.Rows.Boot.«isinstance» (aa (pv 0) (aa (fF (v:=.ty "str") (by rfl) N.str PyProof.Rows.Boot.«str» rfl) ae))))) (ao gI) aI)
   (af (aE (i:=1) uh.nd rfl (Or.inl rfl) (dh KR.km KR.ok (hr.mono (by decide)) rfl KR.nm KR.bd .nil av (aa (pv 0) ae)))
   (af (aE (i:=2) uh.nd rfl (Or.inl rfl) (aw CQ.ok (hr.mono (by decide)) rfl CQ.nm CQ.kp CQ.bd .nil av (aa (pv 1) ae)))
   (af (aY (bw (pv 1) MZ.cl MZ.mt MZ.ok (hr.mono (by decide)) MZ.bd MZ.dv av))
   (ao (ay (pv 2))))))),?_⟩
  have hws:=jb ok
  have hwl:=Nat.le_trans (hX ok) (Cd hn)
  have hjl:=vY (ws:=aW n nd) (m:=79) λw hw=>(hws w hw).len
  refine ag (aH ⟨_,rfl,_,_,_,_,rfl,.str _,rfl,_,rfl,?_⟩)
  refine aZ (aA ?_)
  dsimp only
  refine ag (aC ⟨_,rfl,?_⟩)
  intro r dr nr ndr ne
  refine⟨r,dr,aW n nd,rfl,aj,mV n ok,by omega,λw hw=>(hws w hw).free,Nat.le_trans hjl (Nat.le_trans (show _<=100000 by omega) (by decide)),λlw H1 nlw o1 h1=>⟨rfl,?_⟩⟩
  walk_at "d"
  have g1:bh H H1:=λb o e=>o1 _ _ (by rw [ah (ai e nr),ah (ai e ndr)];exact e) (ai e nr)
  refine ag (aC ⟨_,rfl,n,hn,r,nd,rfl,lw,_,0,0,ok,h1,At.all _,by omega,hn,λx H2 nx o2 h2 qn=>?_⟩)
  walk_at "d"
  rw [Nat.zero_add]at h2
  have g2:bh H H2:=λb o e=>o2 _ _ (g1 _ _ e) (ai e nr)
  obtain⟨d2,ho2⟩:=h2.ob
  refine ag (aX ⟨_,rfl,r,d2,_,rfl,ho2,bx _ _ _ ‹0› ‹0› ‹0›,r,lw,_,0,rfl,h2,?_⟩)
  dsimp only
  exact aD ⟨_,rfl,q x H2 (bW g1 nx) g2 (cr.keep (Kq.grow (hZ (H0:=H) λb hb=>bW g1 hb)) qn)⟩
def Nm2 (ss:List Str):Prop:=(ss.length=8\/ss.length=2)/\ss.Nodup/\∀x∈ss,cJ x dk 8=true
noncomputable def yC (ss:List Str) (lo wd:Int):Lf->Prop
 | .num _=>True
 | .val k d=>k∈ss/\lo<=d/\d < lo+wd
 | .gth _ ks f l=>(∀k∈ks,k∈ss)/\lo<=f/\l < lo+wd
 | .snc k _ f l=>k∈ss/\lo<=f/\l < lo+wd
 | .prt a b f l=>(a∈ss/\b∈ss)/\lo<=f/\l < lo+wd
 | .chg _ k f l=>k∈ss/\lo<=f/\l < lo+wd
noncomputable def lfV (p:Addr):Lf->List V
 | .num z=>[.str ‹"number"›,.int z]
 | .val k d=>[.str ‹"value"›,.str k,.int d]
 | .gth w _ f l=>[.str w,.ref p,.int f,.int l]
 | .snc k b f l=>[.str ‹"since"›,.str k,.int b,.int f,.int l]
 | .prt a b f l=>[.str ‹"part"›,.str a,.str b,.int f,.int l]
 | .chg r k f l=>[.str ‹"change"›,.int r,.str k,.int f,.int l]
noncomputable def lfL (p:Addr) (H:Hp):Lf->Prop
 | .gth _ ks _ _=>H p=some (.lst (ks.map V.str))
 | _=>True
inductive LN (l:Lf) (H:Hp) (a:Addr):Prop
 | mk (p:Addr) (h1:H a=some (.tup (lfV p l))) (h2:lfL p H l):LN l H a
theorem LN.keep {l:Lf}{H H':Hp}{a:Addr} (h:LN l H a) (g:bh H H'):LN l H' a:=by
 obtain⟨p,h1,h2⟩:=h
 refine⟨p,g _ _ h1,?_⟩
 cases l <;> first | exact True.intro | exact g _ _ h2
theorem SAt.free {H H1:Hp}{s a:Addr} (h:SAt H1 s) (o:Off s H H1) (n:H1 a=none):H a=none:=by
 cases e:H a with
 | none=>rfl
 | some u=>
  by_cases z:a=s
  ·obtain⟨xs,es⟩:=h.lst
   rw [z,es]at n;cases n
  ·rw [o _ _ e z]at n;cases n
theorem vO {ss:List Str}{n:Int} (h:Nm2 ss) (n0:0<=n) (n1:n < ss.length):∃k,atI (ss.map V.str) n=some (.str k)/\iM k/\k∈ss:=by
 obtain⟨_,_,hk⟩:=h
 obtain⟨j,rfl⟩:∃j:Nat,n=(j:Int):=⟨n.toNat,by omega⟩
 have hj:j < ss.length:=by omega
 exact⟨ss[j],fM (by rw [List.getElem?_map,List.getElem?_eq_getElem hj];rfl),hk _ (List.getElem_mem hj),List.getElem_mem hj⟩
noncomputable abbrev w9:List Str:=[‹"value"›, ‹"sum"›, ‹"count"›, ‹"least"›, ‹"greatest"›, ‹"since"›, ‹"part"›, ‹"change"›, ‹"number"›]
theorem at9 {n:Int} (n0:0<=n) (n1:n < 9):∃w,atI (w9.map V.str) n=some (.str w)/\(w∈eQ\/w=‹"value"›\/w=‹"since"›\/w=‹"part"›\/w=‹"change"›\/w=‹"number"›):=by
 rcases (show n=0\/n=1\/n=2\/n=3\/n=4\/n=5\/n=6\/n=7\/n=8 by omega) with rfl | rfl | rfl | rfl | rfl | rfl | rfl | rfl | rfl
 ·exact⟨_,rfl,.inr (.inl rfl)⟩
 ·exact⟨_,rfl,.inl ‹0›⟩
 ·exact⟨_,rfl,.inl ‹0›⟩
 ·exact⟨_,rfl,.inl ‹0›⟩
 ·exact⟨_,rfl,.inl ‹0›⟩
 ·exact⟨_,rfl,.inr (.inr (.inl rfl))⟩
 ·exact⟨_,rfl,.inr (.inr (.inr (.inl rfl)))⟩
 ·exact⟨_,rfl,.inr (.inr (.inr (.inr (.inl rfl))))⟩
 ·exact⟨_,rfl,.inr (.inr (.inr (.inr (.inr rfl))))⟩
theorem fK:∀w∈eQ,w≠‹"number"›/\w≠‹"value"›/\w≠‹"since"›/\w≠‹"part"›/\w≠‹"change"›:=‹0›
theorem fX {x y:Str} (h:x≠y):¬V.str x=V.str y:=λz=>h (V.str.inj z)
inductive LeI (s ln t:Addr) (m:Int) (H:Hp) (Q:VK):Prop
 | mk (ss:List Str) (lo wd:Int) (hs:SAt H s) (el:H ln=some (.lst (ss.map V.str))) (hss:Nm2 ss) (nls:ln≠s) (et:H t=some (.tup [.int lo,.int wd])) (nts:t≠s) (h0:0<=lo) (h1:1<=wd) (h2:lo+wd<=400) (m1:1<=m) (m2:m<=8) (q:∀(a:Addr) (l:Lf) (H':Hp),dL l->yC ss lo wd l->H a=none->Off s H H'->SAt H' s->LN l (wo H H') a->Q (.ref a) H'):LeI s ln t m H Q
noncomputable def tZ:Sp:=λvs H Q _=>∃(s ln t:Addr) (m:Int),vs=[.ref s,.ref ln,.ref t,.int m]/\LeI s ln t m H Q
theorem ee {H H1:Hp}{s a:Addr}{l:Lf}{p:Addr} (hs:SAt H1 s) (o:Off s H H1) (na:H1 a=none) (hl:lfL p (wo H H1) l):H a=none/\Off s H (upd H1 a (.tup (lfV p l)))/\SAt (upd H1 a (.tup (lfV p l))) s/\LN l (wo H (upd H1 a (.tup (lfV p l)))) a:=by
 have f:=hs.free o na
 obtain⟨g,e⟩:=laid (o:=.tup (lfV p l)) na
 refine⟨f,o.trans (Off.grow g),hs.keep g,p,by rw [eC f];exact e,?_⟩
 cases l <;> first | exact True.intro | exact(iN λb u _ eb=>g _ _ eb) _ _ hl
theorem gG:FnScope ["_law_state", "_law_names_here", "_law_window_here", "_law_most", "_law_word", "_law_first", "_law_last", "_law_name"] ["_law_state", "_law_names_here", "_law_window_here", "_law_most"] (aq pH):=‹2›
theorem vz {f f1 f2 f3 f4:Addr}{fd:FuncData} (F:Fun K "_law_leaf" "_law_leaf" pH f fd) (N:Free mg){fd1:FuncData} (CP:Cal P w K mg base "_law_pull" 2 ["_law_state", "_law_many"] eE f1 fd1){fd2:FuncData} (CS:Cal P w K mg base "_law_some" 3 ["_law_state", "_law_names_here", "_law_most"] pc f2 fd2){fd3:FuncData} (CD:Cal P w K mg base "_law_days" 3 ["_law_state", "_law_window_here"] pf f3 fd3){fd4:FuncData} (CA:Cal P w K mg base "_law_amount" 3 ["_law_state"] jp f4 fd4):FnOk P w K mg base CX0 4 f fd ["_law_state", "_law_names_here", "_law_window_here", "_law_most"] tZ:=by
 refine F.ok (k:=3) gG (λvs H Q E h=>?_) (λcdv A outer s H vs Q E hr h=>?_)
 ·obtain⟨s,ln,t,m,rfl,_⟩:=h
  rfl
 ·obtain⟨s,ln,t,m,rfl,ss,lo,wd,hs,el,hss,nls,et,nts,h0,h1,h2,m1,m2,q⟩:=h
  have hu:=aL hr
  refine⟨_,(@af _ _ _ _ _ (@aE (i:=4) _ _ _ _ _ _ gG.nd rfl (Or.inl rfl) (@bn _ _ _ _ _ _ _ br (@aR _ _ _ _ (@aa _ _ _ _ _ aB (@aa _ _ _ _ _ aB (@aa _ _ _ _ _ aB (@aa _ _ _ _ _ aB (@aa _ _ _ _ _ aB (@aa _ _ _ _ _ aB (@aa _ _ _ _ _ aB (@aa _ _ _ _ _ aB (@aa _ _ _ _ _ aB ae rfl) rfl) rfl) rfl) rfl) rfl) rfl) rfl) rfl)) (aw CP.ok (hr.mono (by decide)) rfl CP.nm CP.kp CP.bd .nil av (@aa _ _ _ _ _ (pv 0) (@aa _ _ _ _ _ au ae rfl) rfl)) (λ_ _=>rfl)) (by rfl) (by first | exact .inl rfl | exact .inr rfl))
   (af (bt (aK bK (pv 4) aB (aS _)) (@ao _ _ _ (@ay _ _ _ _ (@bN _ _ _ _ _ (@aa _ _ _ _ _ (pv 4) (@aa _ _ _ _ _ (aw CA.ok (hr.mono (by decide)) rfl CA.nm CA.kp CA.bd .nil av (@aa _ _ _ _ _ (pv 0) ae rfl)) ae rfl) rfl)))) aI)
   (af (ij (aw CD.ok (hr.mono (by decide)) rfl CD.nm CD.kp CD.bd .nil av (aa (pv 0) (aa (pv 2) ae))) (mi rfl (cx (bC (i:=5) gG.nd rfl (Or.inl rfl)) (cx (bC (i:=6) gG.nd rfl (Or.inl rfl)) iW))))
   (@af _ _ _ _ _ (@aE (i:=7) _ _ _ _ _ _ gG.nd rfl (Or.inl rfl) (@bn _ _ _ _ _ _ _ br (pv 1) (aw CP.ok (hr.mono (by decide)) rfl CP.nm CP.kp CP.bd .nil av (@aa _ _ _ _ _ (pv 0) (@aa _ _ _ _ _ (aG aO (by rfl) N.len PySem.boot_len (@aa _ _ _ _ _ (pv 1) ae rfl)) ae rfl) rfl)) (λ_ _=>rfl)) (by rfl) (by first | exact .inl rfl | exact .inr rfl))
   (af (bt (aK bK (pv 4) aB (aS _)) (@ao _ _ _ (@ay _ _ _ _ (@bN _ _ _ _ _ (@aa _ _ _ _ _ (pv 4) (@aa _ _ _ _ _ (pv 7) (@aa _ _ _ _ _ (pv 6) ae rfl) rfl) rfl)))) aI)
   (af (bt (aK bK (pv 4) aB (aS _)) (@ao _ _ _ (@ay _ _ _ _ (@bN _ _ _ _ _ (@aa _ _ _ _ _ (pv 4) (@aa _ _ _ _ _ (pv 7) (@aa _ _ _ _ _ (aw CA.ok (hr.mono (by decide)) rfl CA.nm CA.kp CA.bd .nil av (@aa _ _ _ _ _ (pv 0) ae rfl)) (@aa _ _ _ _ _ (pv 5) (@aa _ _ _ _ _ (pv 6) ae rfl) rfl) rfl) rfl) rfl)))) aI)
   (af (bt (aK bK (pv 4) aB (aS _)) (@ao _ _ _ (@ay _ _ _ _ (@bN _ _ _ _ _ (@aa _ _ _ _ _ (pv 4) (@aa _ _ _ _ _ (pv 7) (@aa _ _ _ _ _ (@bn _ _ _ _ _ _ _ br (pv 1) (aw CP.ok (hr.mono (by decide)) rfl CP.nm CP.kp CP.bd .nil av (@aa _ _ _ _ _ (pv 0) (@aa _ _ _ _ _ (aG aO (by rfl) N.len PySem.boot_len (@aa _ _ _ _ _ (pv 1) ae rfl)) ae rfl) rfl)) (λ_ _=>rfl)) (@aa _ _ _ _ _ (pv 5) (@aa _ _ _ _ _ (pv 6) ae rfl) rfl) rfl) rfl) rfl)))) aI)
   (af (bt (aK bK (pv 4) aB (aS _)) (@ao _ _ _ (@ay _ _ _ _ (@bN _ _ _ _ _ (@aa _ _ _ _ _ (pv 4) (@aa _ _ _ _ _ (@b8 _ _ _ _ _ _ _ _ bV au (aw CP.ok (hr.mono (by decide)) rfl CP.nm CP.kp CP.bd .nil av (@aa _ _ _ _ _ (pv 0) (@aa _ _ _ _ _ (@bn _ _ _ _ _ _ _ br (@aR _ _ _ _ (@aa _ _ _ _ _ au (@aa _ _ _ _ _ au ae rfl) rfl)) (aw CP.ok (hr.mono (by decide)) rfl CP.nm CP.kp CP.bd .nil av (@aa _ _ _ _ _ (pv 0) (@aa _ _ _ _ _ au ae rfl) rfl)) (λ_ _=>rfl)) ae rfl) rfl))) (@aa _ _ _ _ _ (pv 7) (@aa _ _ _ _ _ (pv 5) (@aa _ _ _ _ _ (pv 6) ae rfl) rfl) rfl) rfl) rfl)))) aI)
   (@ao _ _ _ (@ay _ _ _ _ (@bN _ _ _ _ _ (@aa _ _ _ _ _ (pv 4) (@aa _ _ _ _ _ (aw CS.ok (hr.mono (by decide)) rfl CS.nm CS.kp CS.bd .nil av (@aa _ _ _ _ _ (pv 0) (@aa _ _ _ _ _ (pv 1) (@aa _ _ _ _ _ (pv 3) ae rfl) rfl) rfl)) (@aa _ _ _ _ _ (pv 5) (@aa _ _ _ _ _ (pv 6) ae rfl) rfl) rfl) rfl)))))))))))),?_⟩
  refine ag (aC ⟨by show 9<=sizeLine;decide,λlw nlw=>?_⟩)
  obtain⟨g1,e1⟩:=laid (o:=.lst (w9.map V.str)) nlw
  have hs1:=hs.keep g1
  have nws:lw≠s:=λz=>by obtain⟨xs,e⟩:=hs.lst;rw [z,e]at nlw;cases nlw
  have o1:Off s H (upd H lw (.lst (w9.map V.str))):=Off.grow g1
  change jg _ _ _ _ _ (upd H lw (.lst (w9.map V.str))) _
  generalize upd H lw (.lst (w9.map V.str))=H1 at g1 e1 hs1 o1 ⊢
  refine⟨_,rfl,s,9,rfl,hs1,by decide,by decide,λn H2 n0 n1 p2 hs2=>?_⟩
  obtain⟨w,ew,hw⟩:=at9 n0 n1
  refine⟨lw,_,_,_,rfl,rfl,SqL.of (p2 _ _ e1 nws),ew,?_⟩
  walk_at "d"
  have o2:=o1.trans p2
  have okn:∀{H':Hp},Off s H H'->H' ln=some (.lst (ss.map V.str)):=λo=>o _ _ el nls
  by_cases zn:w=‹"number"›
  ·subst zn
   refine ag (aH ⟨_,rfl,rfl,_,rfl,?_⟩)
   refine bB ?_
   refine aD ⟨_,rfl,_,rfl,s,rfl,hs2,λz H3 p3 hs3 z0 z1=>⟨by show 2<=sizeLine;decide,λa na=>?_⟩⟩
   obtain⟨f,o,hs',hl⟩:=ee (l:=.num z) (p:=a) hs3 (o2.trans p3) na True.intro
   exact q a (.num z) _ ⟨z0,z1⟩ True.intro f o hs' hl
  refine ag (aH ⟨_,rfl,rfl,_,rfl,?_⟩)
  rw [decide_eq_false (fX zn)]
  refine aZ (aA ?_)
  dsimp only
  refine ag (aC ⟨_,rfl,_,rfl,s,t,lo,wd,rfl,hs2,o2 _ _ et nts,nts,h0,h1,h2,λu f0 l0 H3 p3 hs3 eu d1 d2 d3=>?_⟩)
  refine⟨u,_,rfl,SqT.of eu,rfl,_,_,rfl,_,_,rfl,rfl,?_⟩
  walk_at "d"
  have o3:=o2.trans p3
  have hd:kI f0 l0:=⟨by omega,d2,by omega⟩
  refine ag (aC ⟨_,rfl,_,rfl,_,rfl,ln,_,rfl,.inl (SqL.of (okn o3)),s,_,rfl,hs3,(by rw [List.length_map];rcases hss.1 with z | z <;> omega),(by rw [List.length_map];rcases hss.1 with z | z <;> omega),λn4 H4 m40 m41 p4 hs4=>?_⟩)
  rw [List.length_map]at m41
  have o4:=o3.trans p4
  obtain⟨k,ek,hk,hkm⟩:=vO hss m40 m41
  refine⟨ln,_,_,_,rfl,rfl,SqL.of (okn o4),ek,?_⟩
  walk_at "d"
  rcases hw with hw | rfl | rfl | rfl | rfl | hw
  ·have gn:=fK w hw
   refine ag (aH ⟨_,rfl,rfl,_,rfl,?_⟩)
   rw [decide_eq_false (fX (fK w hw).2.1)]
   refine aZ (aA ?_)
   dsimp only
   refine ag (aH ⟨_,rfl,rfl,_,rfl,?_⟩)
   rw [decide_eq_false (fX (fK w hw).2.2.1)]
   refine aZ (aA ?_)
   dsimp only
   refine ag (aH ⟨_,rfl,rfl,_,rfl,?_⟩)
   rw [decide_eq_false (fX (fK w hw).2.2.2.1)]
   refine aZ (aA ?_)
   dsimp only
   refine ag (aH ⟨_,rfl,rfl,_,rfl,?_⟩)
   rw [decide_eq_false (fX (fK w hw).2.2.2.2)]
   refine aZ (aA ?_)
   dsimp only
   refine aD ⟨_,rfl,_,rfl,_,rfl,_,rfl,s,ln,ss,m,rfl,hs4,okn o4,nls,m1,(by rcases hss.1 with z | z <;> omega),(by rcases hss.1 with z | z <;> omega),λp xs ys H5 np p5 hs5 ep hne hpm hlm=>?_⟩
   refine⟨_,rfl,_,rfl,by show 4<=sizeLine;decide,λa na=>?_⟩
   have o5:=o4.trans p5
   have hsub:∀k∈xs,iM k:=λk hk=>hss.2.2 k (hpm.mem_iff.mp (List.mem_append_left _ hk))
   have hnd:xs.Nodup:=(List.nodup_append.mp (hpm.nodup_iff.mpr hss.2.1)).1
   obtain⟨f,o,hs',hl⟩:=ee (l:=.gth w xs f0 l0) (p:=p) hs5 o5 na (show wo H H5 p=_ by rw [eC (hs4.free o4 np)];exact ep)
   exact q a (.gth w xs f0 l0) _ ⟨hw,⟨List.length_pos_iff.mpr hne,by omega,hnd,hsub⟩,hd⟩ ⟨λk hk=>hpm.mem_iff.mp (List.mem_append_left _ hk),d1,d3⟩ f o hs' hl
  ·refine ag (aH ⟨_,rfl,rfl,_,rfl,?_⟩)
   refine bB ?_
   refine aD ⟨_,rfl,_,rfl,_,rfl,by show 3<=sizeLine;decide,λa na=>?_⟩
   obtain⟨f,o,hs',hl⟩:=ee (l:=.val k l0) (p:=a) hs4 o4 na True.intro
   exact q a (.val k l0) _ ⟨hk,by omega,by omega⟩ ⟨hkm,by omega,d3⟩ f o hs' hl
  ·refine ag (aH ⟨_,rfl,rfl,_,rfl,?_⟩)
   rw [show decide (V.str ‹"since"›=V.str ‹"value"›)=false from ‹0›]
   refine aZ (aA ?_)
   dsimp only
   refine ag (aH ⟨_,rfl,rfl,_,rfl,?_⟩)
   refine bB ?_
   refine aD ⟨_,rfl,_,rfl,_,rfl,s,rfl,hs4,λb0 H5 p5 hs5 z0 z1=>⟨_,rfl,_,rfl,by show 5<=sizeLine;decide,λa na=>?_⟩⟩
   obtain⟨f,o,hs',hl⟩:=ee (l:=.snc k b0 f0 l0) (p:=a) hs5 (o4.trans p5) na True.intro
   exact q a (.snc k b0 f0 l0) _ ⟨hk,⟨z0,z1⟩,hd⟩ ⟨hkm,d1,d3⟩ f o hs' hl
  ·refine ag (aH ⟨_,rfl,rfl,_,rfl,?_⟩)
   rw [show decide (V.str ‹"part"›=V.str ‹"value"›)=false from ‹0›]
   refine aZ (aA ?_)
   dsimp only
   refine ag (aH ⟨_,rfl,rfl,_,rfl,?_⟩)
   rw [show decide (V.str ‹"part"›=V.str ‹"since"›)=false from ‹0›]
   refine aZ (aA ?_)
   dsimp only
   refine ag (aH ⟨_,rfl,rfl,_,rfl,?_⟩)
   refine bB ?_
   refine aD ⟨_,rfl,_,rfl,_,rfl,_,rfl,_,rfl,ln,_,rfl,.inl (SqL.of (okn o4)),s,_,rfl,hs4,(by rw [List.length_map];rcases hss.1 with z | z <;> omega),(by rw [List.length_map];rcases hss.1 with z | z <;> omega),λn5 H5 m50 m51 p5 hs5=>?_⟩
   rw [List.length_map]at m51
   have o5:=o4.trans p5
   obtain⟨k2,ek2,hk2,hkm2⟩:=vO hss m50 m51
   refine⟨ln,_,_,_,rfl,rfl,SqL.of (okn o5),ek2,_,rfl,_,rfl,by show 5<=sizeLine;decide,λa na=>?_⟩
   obtain⟨f,o,hs',hl⟩:=ee (l:=.prt k k2 f0 l0) (p:=a) hs5 o5 na True.intro
   exact q a (.prt k k2 f0 l0) _ ⟨hk,hk2,hd⟩ ⟨⟨hkm,hkm2⟩,d1,d3⟩ f o hs' hl
  ·refine ag (aH ⟨_,rfl,rfl,_,rfl,?_⟩)
   rw [show decide (V.str ‹"change"›=V.str ‹"value"›)=false from ‹0›]
   refine aZ (aA ?_)
   dsimp only
   refine ag (aH ⟨_,rfl,rfl,_,rfl,?_⟩)
   rw [show decide (V.str ‹"change"›=V.str ‹"since"›)=false from ‹0›]
   refine aZ (aA ?_)
   dsimp only
   refine ag (aH ⟨_,rfl,rfl,_,rfl,?_⟩)
   rw [show decide (V.str ‹"change"›=V.str ‹"part"›)=false from ‹0›]
   refine aZ (aA ?_)
   dsimp only
   refine ag (aH ⟨_,rfl,rfl,_,rfl,?_⟩)
   refine bB ?_
   refine aD ⟨_,rfl,?_⟩
   refine eF (yW ?_)
   dsimp only [tC]
   refine⟨_,rfl,by show 2<=sizeLine;decide,λl2 nl2=>?_⟩
   obtain⟨g5,e5⟩:=laid (o:=.lst [V.int 3,V.int 400]) nl2
   have hs5:=hs4.keep g5
   have n2s:l2≠s:=λz=>by obtain⟨xs,e⟩:=hs4.lst;rw [z,e]at nl2;cases nl2
   have o5:=o4.trans (Off.grow g5)
   generalize upd H4 l2 _=H5 at g5 e5 hs5 o5 ⊢
   refine⟨_,rfl,s,2,rfl,hs5,by decide,by decide,λn6 H6 m0 m1' p6 hs6=>?_⟩
   have o6:=o5.trans p6
   obtain⟨mm,em,hm1,hm2⟩:∃mm:Int,atI [V.int 3,V.int 400] n6=some (.int mm)/\1<=mm/\mm<=400:=by
    rcases (show n6=0\/n6=1 by omega) with rfl | rfl
    ·exact⟨3,rfl,by decide,by decide⟩
    ·exact⟨400,rfl,by decide,by decide⟩
   refine⟨l2,_,_,_,rfl,rfl,SqL.of (p6 _ _ e5 n2s),em,s,mm,rfl,hs6,by omega,by omega,λr0 H7 r1 r2 p7 hs7=>?_⟩
   have o7:=o6.trans p7
   refine⟨_,_,rfl,rfl,_,rfl,_,rfl,_,rfl,by show 5<=sizeLine;decide,λa na=>?_⟩
   obtain⟨f,o,hs',hl⟩:=ee (l:=.chg (1+r0) k f0 l0) (p:=a) hs7 o7 na True.intro
   exact q a (.chg (1+r0) k f0 l0) _ ⟨⟨by omega,by omega⟩,hk,hd⟩ ⟨hkm,d1,d3⟩ f o hs' hl
  ·exact absurd hw zn
end Mine
namespace L2
open PySem PySem.Spec PyProof.Rows
section
variable {X:Cx}
inductive rSumL (K:PySem.W.Frag) (xs:List V) (H:Hp) (Q:VK):Prop
 | mk (a:Addr) (ns:List Int) (h1:xs=[.ref a]) (h2:SqL K H a (ns.map V.int)) (h4:Q (.int ns.sum) H):rSumL K xs H Q
theorem lz (hc:X.calm=true):cD X (.builtin "sum") (rSumL X.K):=by
 intro pins s σ H xs us Q I r h
 obtain⟨a,ns,rfl,hS,q⟩:=h
 obtain⟨u,rfl,ru⟩:=bY r
 cases (show u=Value.ref a from ru)
 obtain⟨ys,hl,e⟩:=gQ I hS
 refine sum_intListG (I.ok.hd hc) hl λh' tk t' hk=>?_
 refine⟨.int _,H,I.kept hk,⟨t',?_⟩,q⟩
 rw [preSum_eq,List.take_of_length_le (by simp),<- e]
inductive rMinL (K:PySem.W.Frag) (xs:List V) (H:Hp) (Q:VK):Prop
 | mk (a:Addr) (ns:List Int) (h1:xs=[.ref a]) (h2:SqL K H a (ns.map V.int)) (h3:ns≠[]) (h4:∀M,M∈ns->(∀x∈ns,M<=x)->Q (.int M) H):rMinL K xs H Q
theorem sT (hc:X.calm=true):cD X (.builtin "min") (rMinL X.K):=by
 intro pins s σ H xs us Q I r h
 obtain⟨a,ns,rfl,hS,hne,q⟩:=h
 obtain⟨u,rfl,ru⟩:=bY r
 cases (show u=Value.ref a from ru)
 obtain⟨ys,hl,e⟩:=gQ I hS
 have hn:=List.length_pos_iff.mpr hne
 have hy:=gK e
 refine min_intList (I.ok.hd hc) hl ‹1› λv h' tk hv hk=>?_
 obtain⟨t,rfl⟩:=intItems_at hv
 obtain⟨h1,h2⟩:=argBest_lt (numAt ys) (ys.size - 1)
 refine⟨.int _,H,I.kept hk,⟨_,rfl⟩,q _ ?_ λx hx=>?_⟩
 ·rw [numAt_eq,e];exact getD_mem ‹1›
 ·obtain⟨j,hj,rfl⟩:=mem_getD hx
  have:=h2 j ‹1›
  rw [numAt_eq,numAt_eq,e]at this
  rw [numAt_eq,e]
  exact this
end
noncomputable def cp (z:Nat->Int):Nat->Option Int
 | 0=>none
 | j+1=>match cp z j with
  | none=>some (z j)
  | some m=>some (if z j < m then z j else m)
def we (b:Option Int) (its:Array Value):Prop:=match b with
 | none=>its = #[]
 | some m=>∃t,its = #[.int m t,.int m t]
def tG (b:Option Int) (v:Value):Prop:=match b with
 | none=>v=.none
 | some m=>∃t,v=.int m t
section
variable {prog:Program}{w:World}{A:Around}{R:Result->Shared->Prop}{I:Addr}{fp wr:List Addr}{n:Nat}{P:Nat->Value->Prop}{St:Nat->Heap->Prop}
theorem AL (z:Nat->Int) (W:Walks prog w A.in1 I fp wr n P St) (hz:∀i v,P i v->∃t,v=Value.int (z i) t) (S:Addr) (hSf:S∉fp):∀(k j:Nat) (s:Shared) (its:Array Value) (c:Nat),n - j=k->j<=n->St j s.heap->we (cp z j) its->
  s.heap.get? S=some { cls:=.type "list", dict:=none,data:=.seq its c,slots:=#[] }->
  (∀v h' tk,tG (cp z n) v->(∀b o,b∉wr->b≠S->s.heap.get? b=some o->h'.get? b=some o)->R (.ok (.ret v)) { s with heap:=h',toks:=tk })->
  codeAny (model prog w) A (.builtin "min.loop" ⟨[.ref I,.none,.ref S],[("default", .none)]⟩) R s:=by
 have hSw:S∉wr:=λh=>hSf (W.sub _ h)
 have nm:(toString "min"++toString ".loop" : String) = "min.loop":=by decide
 intro k
 induction k with
 | zero=>
  intro j s its c hk hj st hh hS hR
  obtain rfl:j=n:=by omega
  refine codeAny_builtin F.entry_min_loop ?_
  rw [Around.under_plainId F.plain_min_loop _]
  show wpAny _ A.in1 (seqItems? (.ref S) >>= _) _ _ s
  refine zB0 (wpAny_seqItems hS rfl ?_)
  show wpAny _ A.in1 (tryCatch (pyNext (.ref I)) _ >>= _) _ _ s
  refine zB0 (wpAny_tryCatch (W.done s _ _ st λh' tk kp=>?_))
  have hS':=kp S _ hSw hS
  cases hb:cp z j with
  | none=>
   rw [hb]at hh hR
   obtain rfl:its = #[]:=hh
   refine zB0 (wpAny_rule (zP0 (hR .none h' tk rfl λb o hb _ e=>kp b o hb e)))
  | some m=>
   rw [hb]at hh hR
   obtain⟨t,rfl⟩:=hh
   show wpAny _ A.in1 (updateSeq S (λ_=>#[]) >>= _) _ _ _
   refine zB0 ?_
   refine wpAny_updateSeq hS' rfl (zB0 (wpAny_letGo (zP0 ?_)))
   exact hR (.int m t) _ tk ⟨t,rfl⟩ λb o hb hbS e=>(Heap.get?_update_other _ _ (Ne.symm hbS)).trans (kp b o hb e)
 | succ k ih=>
  intro j s its c hk hj st hh hS hR
  refine codeAny_builtin F.entry_min_loop ?_
  rw [Around.under_plainId F.plain_min_loop _]
  show wpAny _ A.in1 (seqItems? (.ref S) >>= _) _ _ s
  refine zB0 (wpAny_seqItems hS rfl ?_)
  show wpAny _ A.in1 (tryCatch (pyNext (.ref I)) _ >>= _) _ _ s
  refine zB0 (wpAny_tryCatch (W.item j s _ _ ‹1› st λv h' tk hp st' kp=>?_))
  have hS':=kp S _ hSw hS
  obtain⟨t,rfl⟩:=hz j v hp
  have eb:cp z (j+1)=match cp z j with | none=>some (z j) | some m=>some (if z j < m then z j else m):=rfl
  have fr:∀(f:Array Value->Array Value),St (j+1) (h'.update S (Obj.mapSeq f)):=λf=>W.frame _ _ _ st' λb hbf o e=>(Heap.get?_update_other _ _ (λh:S=b=>hSf (by rw [h];exact hbf))).trans e
  cases hb:cp z j with
  | none=>
   rw [hb]at hh eb
   obtain rfl:its = #[]:=hh
   show wpAny _ A.in1 (updateSeq S (λ_=>#[Value.int (z j) t,Value.int (z j) t]) >>= _) _ _ _
   refine zB0 ?_
   refine wpAny_updateSeq hS' rfl ?_
   rw [nm]
   refine zP0 ⟨plainId_quiet F.plain_min_loop _,ih (j+1) _ _ _ ‹1› ‹1› (fr _) (by rw [eb];exact⟨t,rfl⟩) (Heap.get?_update_self _ hS' rfl) λv' h'' tk'' hv' kp'=>?_⟩
   exact hR v' h'' tk'' hv' λb o hb hbS e=>kp' b o hb hbS ((Heap.get?_update_other _ _ (Ne.symm hbS)).trans (kp b o hb e))
  | some m=>
   rw [hb]at hh eb
   dsimp only at eb
   obtain⟨u,rfl⟩:=hh
   show wpAny _ A.in1 (tryCatch (holding [Value.int (z j) t,Value.int (z j) t] (richCompare .Lt (.int (z j) t) (.int m u) >>= _)) _ >>= _) _ _ _
   refine zB0 (wpAny_tryCatch (wpAny_holding (zB0 ?_)))
   refine show wpAny _ _ (compareOp .Lt (.int (z j) t) (.int m u)) _ _ _ from PyProof.Rows.lt_int ?_
   refine zB0 (wpAny_holding (wpAny_truthy_bool ?_))
   refine zB0 (wpAny_letGo (zP0 ?_))
   by_cases hlt:z j < m
   ·rw [if_pos hlt]at eb
    simp only [decide_eq_true hlt,if_true]
    refine zB0 ?_
    refine wpAny_updateSeq hS' rfl (zB0 (wpAny_letGo ?_))
    rw [nm]
    refine zP0 ⟨plainId_quiet F.plain_min_loop _,ih (j+1) _ _ _ ‹1› ‹1› (fr _) (by rw [eb];exact⟨t,rfl⟩) (Heap.get?_update_self _ hS' rfl) λv' h'' tk'' hv' kp'=>?_⟩
    exact hR v' h'' tk'' hv' λb o hb hbS e=>kp' b o hb hbS ((Heap.get?_update_other _ _ (Ne.symm hbS)).trans (kp b o hb e))
   ·rw [if_neg hlt]at eb
    simp only [decide_eq_false hlt,Bool.false_eq_true,if_false]
    refine zB0 (wpAny_letGo ?_)
    rw [nm]
    refine zP0 ⟨plainId_quiet F.plain_min_loop _,ih (j+1) _ _ c ‹1› ‹1› st' (by rw [eb];exact⟨u,rfl⟩) hS' λv' h'' tk'' hv' kp'=>?_⟩
    exact hR v' h'' tk'' hv' λb o hb hbS e=>kp' b o hb hbS (kp b o hb e)
end
theorem sW (a:Value):argsOk "min" ⟨[a],[("default", .none)]⟩:=by unfold argsOk;kernel_rfl
noncomputable def cA (ns:List Int):V:=match cp (λi=>ns.getD i 0) ns.length with
 | none=>.non
 | some m=>.int m
theorem jY (z:Nat->Int):∀n,match cp z n with
  | none=>n=0
  | some m=>(∃j,j < n/\m=z j)/\∀j,j < n->m<=z j
 | 0=>rfl
 | n+1=>by
  have ih:=jY z n
  unfold cp
  cases hb:cp z n with
  | none=>
   rw [hb]at ih
   simp only at ih ⊢
   subst ih
   exact⟨⟨0,by omega,rfl⟩,λj hj=>by rw [show j=0 by omega];exact Int.le_refl _⟩
  | some m=>
   rw [hb]at ih
   obtain⟨⟨j0,h0,e0⟩,h1⟩:=ih
   simp only
   by_cases hlt:z n < m
   ·rw [if_pos hlt]
    refine⟨⟨n,by omega,rfl⟩,λj hj=>?_⟩
    by_cases e:j=n
    ·rw [e];exact Int.le_refl _
    ·have:=h1 j ‹1›;omega
   ·rw [if_neg hlt]
    refine⟨⟨j0,by omega,e0⟩,λj hj=>?_⟩
    by_cases e:j=n
    ·rw [e];omega
    ·exact h1 j ‹1›
theorem best_min_is (ns:List Int):(ns=[]/\cA ns=.non)\/∃m,cA ns=.int m/\m∈ns/\∀x∈ns,m<=x:=by
 have h:=jY (λi=>ns.getD i 0) ns.length
 unfold cA
 cases hb:cp (λi=>ns.getD i 0) ns.length with
 | none=>rw [hb]at h;exact .inl ⟨List.length_eq_zero_iff.mp h,rfl⟩
 | some m=>
  rw [hb]at h
  obtain⟨⟨j,hj,e⟩,h1⟩:=h
  refine .inr ⟨m,rfl,by rw [e];exact getD_mem hj,λx hx=>?_⟩
  obtain⟨i,hi,rfl⟩:=mem_getD hx
  exact h1 i hi
noncomputable def zL (K:PySem.W.Frag) (t tk:TA):TE:=λσ H Q=>t σ H λvs H1=>tk σ H1 λzs H2=>∃(a:Addr) (ns:List Int),vs=[.ref a]/\zs=[.non]/\SqL K H2 a (ns.map V.int)/\Q (cA ns) H2
theorem vi {X:Cx}{e:Expr}{kws:List Keyword}{t tk:TA}{p pos:Pos} (hcm:X.calm=true) (hg:Gl X "min") (hm:X.mg "min" = none) (ha:PA X [e] t) (hk:PK X kws tk)
  (he:backTo pos (starEach [e] X.env)=(false,eval e X.env)::backTo pos (starEach [] X.env):=by rfl) (hplain:(backTo pos (starEach [e] X.env)).any (·.1)=false:=by rfl)
  (hall:(backToKw pos (keywordEach kws X.env)).all (·.1.isSome)=true:=by rfl) (hkw:(backToKw pos (keywordEach kws X.env)).any (·.1.isNone)=false:=by rfl)
  (hks:(backToKw pos (keywordEach kws X.env)).filterMap (·.1)=[PySem.Str.ofString "default"]:=by rfl):PE X (.Call (.Name "min" p) [e] kws pos) (zL X.K t tk):=by
 intro pins s σ H Q I h
 refine wpAny_Call_Name_kw (gt I hg hm PyProof.Rows.Boot.«min» ?_)
 refine callWith_kw (thn (ha pos pins s σ H _ I h) λus s1 hh=>?_) he hplain hall hkw
 obtain⟨vs,H1,I1,r1,q1⟩:=hh
 refine thn (hk pos pins s1 σ H1 _ I1 q1) λws s2 hh=>?_
 obtain⟨zs,H2,I2,r2,a,ns,rfl,rfl,hS,q⟩:=hh
 obtain⟨u,rfl,ru⟩:=bY r1
 obtain⟨u2,rfl,ru2⟩:=bY r2
 cases (show u=Value.ref a from ru)
 cases (show u2=Value.none from ru2)
 rw [hks]
 show wpAny _ _ (call (.builtin "min") [.ref a] [(PySem.Str.ofString "default", .none)]) _ _ _
 obtain⟨ys,hl,e⟩:=gQ I2 hS
 have hh:=I2.ok.hd hcm
 have nm:(toString "min"++toString ".loop" : String) = "min.loop":=by decide
 refine PyProof.Rows.kmk_tree F.kind_min F.plain_min F.entry_min (sW _) ?_
 show wpAny _ X.A.in1 (Builtin.Builtins.bindParams "min" ["key", "default"] 0 ⟨[],[(‹"default"›, .none)]⟩ >>= _) _ _ s2
 refine zB0 (wpAny_of_eq (show Builtin.Builtins.bindParams "min" ["key", "default"] 0 ⟨[],[(‹"default"›, .none)]⟩=pure [none,some .none] from rfl) ?_)
 refine zB0 (zP0 ?_)
 refine zB0 (iter_intList hl λs₂ e2 st hfp hlI=>?_)
 subst e2
 refine zB0 (wpAny_newObj_type ?_)
 have W:=Walks.list (prog:=X.prog) (w:=X.w) (A:=X.A.in1) hh _ a hlI (intItems ys)
 rw [nm]
 have hn:(intItems ys).size=ns.length:=by rw [<- gK e];simp [intItems]
 refine zP0 ⟨plainId_quiet F.plain_min_loop _,AL (λi=>ns.getD i 0) W (λi v hv=>?_) _ (λhm=>Nat.lt_irrefl _ (hfp _ hm)) (intItems ys).size 0 _ #[] 0 ‹1› (Nat.zero_le _) (W.frame _ _ _ st λb _ o e=>zH0 _ e) rfl (Heap.get?_push_size _ rfl) λv h' tk hv kp=>?_⟩
 ·obtain⟨t,e3⟩:=intItems_at hv
  rw [numAt_eq,e]at e3
  exact⟨t,e3⟩
 ·rw [hn]at hv
  have kept:∀b o,s2.heap.get? b=some o->h'.get? b=some o:=old_kept λb o hb e=>kp b o hb (Nat.ne_of_lt (Heap.lt_size e)) (zH0 _ e)
  refine⟨cA ns,H2,I2.kept kept,?_,q⟩
  unfold cA
  cases hb:cp (λi=>ns.getD i 0) ns.length with
  | none=>rw [hb]at hv;exact hv
  | some m=>rw [hb]at hv;exact hv
noncomputable def cq (z:Nat->Int):Nat->Option Int
 | 0=>none
 | j+1=>match cq z j with
  | none=>some (z j)
  | some m=>some (if z j > m then z j else m)
def wf (b:Option Int) (its:Array Value):Prop:=match b with
 | none=>its = #[]
 | some m=>∃t,its = #[.int m t,.int m t]
def tH (b:Option Int) (v:Value):Prop:=match b with
 | none=>v=.none
 | some m=>∃t,v=.int m t
section
variable {prog:Program}{w:World}{A:Around}{R:Result->Shared->Prop}{I:Addr}{fp wr:List Addr}{n:Nat}{P:Nat->Value->Prop}{St:Nat->Heap->Prop}
theorem AM (z:Nat->Int) (W:Walks prog w A.in1 I fp wr n P St) (hz:∀i v,P i v->∃t,v=Value.int (z i) t) (S:Addr) (hSf:S∉fp):∀(k j:Nat) (s:Shared) (its:Array Value) (c:Nat),n - j=k->j<=n->St j s.heap->wf (cq z j) its->
  s.heap.get? S=some { cls:=.type "list", dict:=none,data:=.seq its c,slots:=#[] }->
  (∀v h' tk,tH (cq z n) v->(∀b o,b∉wr->b≠S->s.heap.get? b=some o->h'.get? b=some o)->R (.ok (.ret v)) { s with heap:=h',toks:=tk })->
  codeAny (model prog w) A (.builtin "max.loop" ⟨[.ref I,.none,.ref S],[("default", .none)]⟩) R s:=by
 have hSw:S∉wr:=λh=>hSf (W.sub _ h)
 have nm:(toString "max"++toString ".loop" : String) = "max.loop":=by decide
 intro k
 induction k with
 | zero=>
  intro j s its c hk hj st hh hS hR
  obtain rfl:j=n:=by omega
  refine codeAny_builtin F.entry_max_loop ?_
  rw [Around.under_plainId F.plain_max_loop _]
  show wpAny _ A.in1 (seqItems? (.ref S) >>= _) _ _ s
  refine zB0 (wpAny_seqItems hS rfl ?_)
  show wpAny _ A.in1 (tryCatch (pyNext (.ref I)) _ >>= _) _ _ s
  refine zB0 (wpAny_tryCatch (W.done s _ _ st λh' tk kp=>?_))
  have hS':=kp S _ hSw hS
  cases hb:cq z j with
  | none=>
   rw [hb]at hh hR
   obtain rfl:its = #[]:=hh
   refine zB0 (wpAny_rule (zP0 (hR .none h' tk rfl λb o hb _ e=>kp b o hb e)))
  | some m=>
   rw [hb]at hh hR
   obtain⟨t,rfl⟩:=hh
   show wpAny _ A.in1 (updateSeq S (λ_=>#[]) >>= _) _ _ _
   refine zB0 ?_
   refine wpAny_updateSeq hS' rfl (zB0 (wpAny_letGo (zP0 ?_)))
   exact hR (.int m t) _ tk ⟨t,rfl⟩ λb o hb hbS e=>(Heap.get?_update_other _ _ (Ne.symm hbS)).trans (kp b o hb e)
 | succ k ih=>
  intro j s its c hk hj st hh hS hR
  refine codeAny_builtin F.entry_max_loop ?_
  rw [Around.under_plainId F.plain_max_loop _]
  show wpAny _ A.in1 (seqItems? (.ref S) >>= _) _ _ s
  refine zB0 (wpAny_seqItems hS rfl ?_)
  show wpAny _ A.in1 (tryCatch (pyNext (.ref I)) _ >>= _) _ _ s
  refine zB0 (wpAny_tryCatch (W.item j s _ _ ‹1› st λv h' tk hp st' kp=>?_))
  have hS':=kp S _ hSw hS
  obtain⟨t,rfl⟩:=hz j v hp
  have eb:cq z (j+1)=match cq z j with | none=>some (z j) | some m=>some (if z j > m then z j else m):=rfl
  have fr:∀(f:Array Value->Array Value),St (j+1) (h'.update S (Obj.mapSeq f)):=λf=>W.frame _ _ _ st' λb hbf o e=>(Heap.get?_update_other _ _ (λh:S=b=>hSf (by rw [h];exact hbf))).trans e
  cases hb:cq z j with
  | none=>
   rw [hb]at hh eb
   obtain rfl:its = #[]:=hh
   show wpAny _ A.in1 (updateSeq S (λ_=>#[Value.int (z j) t,Value.int (z j) t]) >>= _) _ _ _
   refine zB0 ?_
   refine wpAny_updateSeq hS' rfl ?_
   rw [nm]
   refine zP0 ⟨plainId_quiet F.plain_max_loop _,ih (j+1) _ _ _ ‹1› ‹1› (fr _) (by rw [eb];exact⟨t,rfl⟩) (Heap.get?_update_self _ hS' rfl) λv' h'' tk'' hv' kp'=>?_⟩
   exact hR v' h'' tk'' hv' λb o hb hbS e=>kp' b o hb hbS ((Heap.get?_update_other _ _ (Ne.symm hbS)).trans (kp b o hb e))
  | some m=>
   rw [hb]at hh eb
   dsimp only at eb
   obtain⟨u,rfl⟩:=hh
   show wpAny _ A.in1 (tryCatch (holding [Value.int (z j) t,Value.int (z j) t] (richCompare .Gt (.int (z j) t) (.int m u) >>= _)) _ >>= _) _ _ _
   refine zB0 (wpAny_tryCatch (wpAny_holding (zB0 ?_)))
   refine show wpAny _ _ (compareOp .Gt (.int (z j) t) (.int m u)) _ _ _ from PyProof.Rows.gt_int ?_
   refine zB0 (wpAny_holding (wpAny_truthy_bool ?_))
   refine zB0 (wpAny_letGo (zP0 ?_))
   by_cases hlt:z j > m
   ·rw [if_pos hlt]at eb
    simp only [decide_eq_true hlt,if_true]
    refine zB0 ?_
    refine wpAny_updateSeq hS' rfl (zB0 (wpAny_letGo ?_))
    rw [nm]
    refine zP0 ⟨plainId_quiet F.plain_max_loop _,ih (j+1) _ _ _ ‹1› ‹1› (fr _) (by rw [eb];exact⟨t,rfl⟩) (Heap.get?_update_self _ hS' rfl) λv' h'' tk'' hv' kp'=>?_⟩
    exact hR v' h'' tk'' hv' λb o hb hbS e=>kp' b o hb hbS ((Heap.get?_update_other _ _ (Ne.symm hbS)).trans (kp b o hb e))
   ·rw [if_neg hlt]at eb
    simp only [decide_eq_false hlt,Bool.false_eq_true,if_false]
    refine zB0 (wpAny_letGo ?_)
    rw [nm]
    refine zP0 ⟨plainId_quiet F.plain_max_loop _,ih (j+1) _ _ c ‹1› ‹1› st' (by rw [eb];exact⟨u,rfl⟩) hS' λv' h'' tk'' hv' kp'=>?_⟩
    exact hR v' h'' tk'' hv' λb o hb hbS e=>kp' b o hb hbS (kp b o hb e)
end
theorem sX (a:Value):argsOk "max" ⟨[a],[("default", .none)]⟩:=by unfold argsOk;kernel_rfl
noncomputable def cB (ns:List Int):V:=match cq (λi=>ns.getD i 0) ns.length with
 | none=>.non
 | some m=>.int m
theorem jZ (z:Nat->Int):∀n,match cq z n with
  | none=>n=0
  | some m=>(∃j,j < n/\m=z j)/\∀j,j < n->z j<=m
 | 0=>rfl
 | n+1=>by
  have ih:=jZ z n
  unfold cq
  cases hb:cq z n with
  | none=>
   rw [hb]at ih
   simp only at ih ⊢
   subst ih
   exact⟨⟨0,by omega,rfl⟩,λj hj=>by rw [show j=0 by omega];exact Int.le_refl _⟩
  | some m=>
   rw [hb]at ih
   obtain⟨⟨j0,h0,e0⟩,h1⟩:=ih
   simp only
   by_cases hlt:z n > m
   ·rw [if_pos hlt]
    refine⟨⟨n,by omega,rfl⟩,λj hj=>?_⟩
    by_cases e:j=n
    ·rw [e];exact Int.le_refl _
    ·have:=h1 j ‹1›;omega
   ·rw [if_neg hlt]
    refine⟨⟨j0,by omega,e0⟩,λj hj=>?_⟩
    by_cases e:j=n
    ·rw [e];omega
    ·exact h1 j ‹1›
theorem best_max_is (ns:List Int):(ns=[]/\cB ns=.non)\/∃m,cB ns=.int m/\m∈ns/\∀x∈ns,x<=m:=by
 have h:=jZ (λi=>ns.getD i 0) ns.length
 unfold cB
 cases hb:cq (λi=>ns.getD i 0) ns.length with
 | none=>rw [hb]at h;exact .inl ⟨List.length_eq_zero_iff.mp h,rfl⟩
 | some m=>
  rw [hb]at h
  obtain⟨⟨j,hj,e⟩,h1⟩:=h
  refine .inr ⟨m,rfl,by rw [e];exact getD_mem hj,λx hx=>?_⟩
  obtain⟨i,hi,rfl⟩:=mem_getD hx
  exact h1 i hi
noncomputable def zM (K:PySem.W.Frag) (t tk:TA):TE:=λσ H Q=>t σ H λvs H1=>tk σ H1 λzs H2=>∃(a:Addr) (ns:List Int),vs=[.ref a]/\zs=[.non]/\SqL K H2 a (ns.map V.int)/\Q (cB ns) H2
theorem vj {X:Cx}{e:Expr}{kws:List Keyword}{t tk:TA}{p pos:Pos} (hcm:X.calm=true) (hg:Gl X "max") (hm:X.mg "max" = none) (ha:PA X [e] t) (hk:PK X kws tk)
  (he:backTo pos (starEach [e] X.env)=(false,eval e X.env)::backTo pos (starEach [] X.env):=by rfl) (hplain:(backTo pos (starEach [e] X.env)).any (·.1)=false:=by rfl)
  (hall:(backToKw pos (keywordEach kws X.env)).all (·.1.isSome)=true:=by rfl) (hkw:(backToKw pos (keywordEach kws X.env)).any (·.1.isNone)=false:=by rfl)
  (hks:(backToKw pos (keywordEach kws X.env)).filterMap (·.1)=[PySem.Str.ofString "default"]:=by rfl):PE X (.Call (.Name "max" p) [e] kws pos) (zM X.K t tk):=by
 intro pins s σ H Q I h
 refine wpAny_Call_Name_kw (gt I hg hm PyProof.Rows.Boot.«max» ?_)
 refine callWith_kw (thn (ha pos pins s σ H _ I h) λus s1 hh=>?_) he hplain hall hkw
 obtain⟨vs,H1,I1,r1,q1⟩:=hh
 refine thn (hk pos pins s1 σ H1 _ I1 q1) λws s2 hh=>?_
 obtain⟨zs,H2,I2,r2,a,ns,rfl,rfl,hS,q⟩:=hh
 obtain⟨u,rfl,ru⟩:=bY r1
 obtain⟨u2,rfl,ru2⟩:=bY r2
 cases (show u=Value.ref a from ru)
 cases (show u2=Value.none from ru2)
 rw [hks]
 show wpAny _ _ (call (.builtin "max") [.ref a] [(PySem.Str.ofString "default", .none)]) _ _ _
 obtain⟨ys,hl,e⟩:=gQ I2 hS
 have hh:=I2.ok.hd hcm
 have nm:(toString "max"++toString ".loop" : String) = "max.loop":=by decide
 refine PyProof.Rows.kmk_tree F.kind_max F.plain_max F.entry_max (sX _) ?_
 show wpAny _ X.A.in1 (Builtin.Builtins.bindParams "max" ["key", "default"] 0 ⟨[],[(‹"default"›, .none)]⟩ >>= _) _ _ s2
 refine zB0 (wpAny_of_eq (show Builtin.Builtins.bindParams "max" ["key", "default"] 0 ⟨[],[(‹"default"›, .none)]⟩=pure [none,some .none] from rfl) ?_)
 refine zB0 (zP0 ?_)
 refine zB0 (iter_intList hl λs₂ e2 st hfp hlI=>?_)
 subst e2
 refine zB0 (wpAny_newObj_type ?_)
 have W:=Walks.list (prog:=X.prog) (w:=X.w) (A:=X.A.in1) hh _ a hlI (intItems ys)
 rw [nm]
 have hn:(intItems ys).size=ns.length:=by rw [<- gK e];simp [intItems]
 refine zP0 ⟨plainId_quiet F.plain_max_loop _,AM (λi=>ns.getD i 0) W (λi v hv=>?_) _ (λhm=>Nat.lt_irrefl _ (hfp _ hm)) (intItems ys).size 0 _ #[] 0 ‹1› (Nat.zero_le _) (W.frame _ _ _ st λb _ o e=>zH0 _ e) rfl (Heap.get?_push_size _ rfl) λv h' tk hv kp=>?_⟩
 ·obtain⟨t,e3⟩:=intItems_at hv
  rw [numAt_eq,e]at e3
  exact⟨t,e3⟩
 ·rw [hn]at hv
  have kept:∀b o,s2.heap.get? b=some o->h'.get? b=some o:=old_kept λb o hb e=>kp b o hb (Nat.ne_of_lt (Heap.lt_size e)) (zH0 _ e)
  refine⟨cB ns,H2,I2.kept kept,?_,q⟩
  unfold cB
  cases hb:cq (λi=>ns.getD i 0) ns.length with
  | none=>rw [hb]at hv;exact hv
  | some m=>rw [hb]at hv;exact hv
end L2
namespace L2
open PySem PySem.SetTable
def yz (xs:Array Nat):Prop:=∀(i k:Nat) (hi:i < xs.size) (hk:k < xs.size),i < k->xs[i] < xs[k]
structure CutN (xs:Array Nat) (j p:Nat):Prop where
 le:p<=xs.size
 lo:∀(i:Nat) (h:i < xs.size),i < p->xs[i] < j
 hi:∀(i:Nat) (h:i < xs.size),p<=i->j<=xs[i]
theorem qh {xs:Array Nat}{j:Nat} (r:yz xs):∀(fuel lo hi:Nat),hi - lo<=fuel->lo<=hi->hi<=xs.size->(∀(i:Nat) (h:i < xs.size),i < lo->xs[i] < j)->(∀(i:Nat) (h:i < xs.size),hi<=i->j<=xs[i])->CutN xs j (below.go xs j fuel lo hi)
 | 0,lo,hi,hf,hl,hs,h1,h2=>by
  have e:lo=hi:=by omega
  unfold below.go
  exact⟨by omega,h1,by rw [e];exact h2⟩
 | fuel+1,lo,hi,hf,hl,hs,h1,h2=>by
  unfold below.go
  by_cases hlt:lo < hi
  ·rw [if_pos hlt]
   have hm:(lo+hi) / 2 < xs.size:=by omega
   have hg:xs.getD ((lo+hi) / 2) j=xs[(lo+hi) / 2]:=by
    rw [Array.getD_eq_getD_getElem?,Array.getElem?_eq_getElem hm];rfl
   dsimp only
   rw [hg]
   by_cases hc:xs[(lo+hi) / 2] < j
   ·rw [if_pos hc]
    refine qh r fuel _ _ ‹1› ‹1› hs (λi h hi'=>?_) h2
    by_cases e:i=(lo+hi) / 2
    ·subst e;exact hc
    ·exact Nat.lt_trans (r i _ h hm ‹1›) hc
   ·rw [if_neg hc]
    refine qh r fuel _ _ ‹1› ‹1› ‹1› h1 (λi h hi'=>?_)
    by_cases e:i=(lo+hi) / 2
    ·subst e;omega
    ·have:=r _ i hm h ‹1›
     omega
  ·rw [if_neg hlt]
   have e:lo=hi:=by omega
   exact⟨by omega,h1,by rw [e];exact h2⟩
theorem dz {xs:Array Nat} (r:yz xs) (j:Nat):CutN xs j (below xs j):=qh r xs.size 0 xs.size ‹1› (Nat.zero_le _) (Nat.le_refl _) (λi _ h=>absurd h (Nat.not_lt_zero _)) λi h h'=>absurd h ‹1›
theorem wO {xs:Array Nat} (r:yz xs){j i:Nat} (h:xs[i]?=some j):below xs j=i:=by
 obtain⟨hi,e⟩:=Array.getElem?_eq_some_iff.mp h
 have c:=dz r j
 rcases Nat.lt_trichotomy (below xs j) i with z | z | z
 ·have h1:=c.hi (below xs j) ‹1› (Nat.le_refl _)
  have h2:=r _ _ ‹1› hi z
  omega
 ·exact z
 ·have:=c.lo i hi z
  omega
structure Tb (t:SetTable) (n:Nat):Prop where
 ris:yz t.place
 dum:t.dummies = #[]
 sz:t.place.size=n
 top:∀(i:Nat) (h:i < t.place.size),t.place[i]<=t.mask
theorem dq {t:SetTable}{n j i:Nat} (T:Tb t n):t.slot j=.live i↔t.place[i]?=some j:=by
 unfold slot
 dsimp only
 constructor
 ·intro h
  by_cases z:t.place[below t.place j]?=some j
  ·rw [if_pos (by rw [z];exact beq_self_eq_true _)]at h
   injection h with h
   rw [<- h];exact z
  ·rw [if_neg (λy=>z (eq_of_beq y))]at h
   rw [T.dum]at h
   cases h
 ·intro h
  rw [wO T.ris h,if_pos (by rw [h];exact beq_self_eq_true _)]
theorem fZ {t:SetTable}{n j:Nat} (T:Tb t n):t.slot j=.empty↔∀i:Nat,t.place[i]?≠some j:=by
 constructor
 ·intro h i e
  rw [(dq T).mpr e]at h
  cases h
 ·intro h
  unfold slot
  dsimp only
  rw [if_neg (λy=>h _ (eq_of_beq y)),T.dum]
  rfl
theorem slot_cases {t:SetTable}{n:Nat} (T:Tb t n) (j:Nat):t.slot j=.empty\/∃i,t.slot j=.live i:=by
 by_cases h:∃i:Nat,t.place[i]?=some j
 ·obtain⟨i,h⟩:=h
  exact .inr ⟨i,(dq T).mpr h⟩
 ·exact .inl ((fZ T).mpr λi e=>h ⟨i,e⟩)
end L2
namespace L2
open PySem PySem.SetTable
noncomputable def lp (n i:Nat):Nat:=(i * 5+1) % n
noncomputable def orb (n:Nat):Nat->Nat->Nat
 | i,0=>i
 | i,m+1=>orb n (lp n i) m
theorem iX (n:Nat):∀(a i b:Nat),orb n i (a+b)=orb n (orb n i a) b
 | 0,i,b=>by rw [Nat.zero_add];rfl
 | a+1,i,b=>by rw [Nat.succ_add];exact iX n a (lp n i) b
noncomputable def met (n:Nat):Nat->Nat->Nat->Nat
 | 0,_,acc=>acc
 | m+1,i,acc=>met n m (lp n i) (acc ||| (1 <<< i))
theorem met_bit (n:Nat):∀(m i acc s:Nat),(met n m i acc).testBit s=true->acc.testBit s=true\/∃k,k < m/\orb n i k=s
 | 0,_,acc,s,h=>.inl h
 | m+1,i,acc,s,h=>by
  rcases met_bit n m (lp n i) _ s h with h | ⟨k,hk,e⟩
  ·rw [Nat.testBit_or,Bool.or_eq_true]at h
   rcases h with h | h
   ·exact .inl h
   ·refine .inr ⟨0,by omega,?_⟩
    rw [Nat.one_shiftLeft,Nat.testBit_two_pow,decide_eq_true_eq]at h
    exact h
  ·exact .inr ⟨k+1,by omega,e⟩
theorem yh:∀n∈[8,32,128,512,2048],met n n 0 0=2 ^ n - 1/\orb n 0 n=0:=‹0›
theorem qV {n:Nat} (hn:n∈[8,32,128,512,2048]){i s:Nat} (hi:i < n) (hs:s < n):∃k,k < n/\orb n i k=s:=by
 obtain⟨h1,h2⟩:=yh n hn
 have at0:∀s,s < n->∃k,k < n/\orb n 0 k=s:=λs hs=>by
  have:(met n n 0 0).testBit s=true:=by rw [h1,Nat.testBit_two_pow_sub_one];exact decide_eq_true hs
  rcases met_bit n n 0 0 s this with h | h
  ·rw [Nat.zero_testBit]at h;cases h
  ·exact h
 obtain⟨a,ha,ea⟩:=at0 i hi
 obtain⟨b,hb,eb⟩:=at0 s hs
 by_cases hab:a<=b
 ·refine⟨b - a,by omega,?_⟩
  rw [<- ea,<- iX,Nat.add_sub_cancel' hab,eb]
 ·refine⟨n - a+b,by omega,?_⟩
  rw [<- ea,<- iX,show a+(n - a+b)=n+b by omega,iX,h2,eb]
end L2
namespace L2
open PySem PySem.SetTable
noncomputable def wk (t:SetTable) (p:Probe):Nat->Probe
 | 0=>p
 | k+1=>wk t (t.advance p) k
theorem cS (t:SetTable):∀(a:Nat) (p:Probe) (b:Nat),wk t p (a+b)=wk t (wk t p a) b
 | 0,p,b=>by rw [Nat.zero_add];rfl
 | a+1,p,b=>by rw [Nat.succ_add];exact cS t a (t.advance p) b
theorem qA (t:SetTable) (p:Probe) (k:Nat):wk t p (k+1)=t.advance (wk t p k):=cS t k p 1
noncomputable def std (t:SetTable) (i pt:Nat) (d:Option Nat):Probe:={ j:=i,more:=runEnd t.mask i - i,i,perturb:=pt,dummy:=d }
theorem rP (t:SetTable) (h:Int):t.probeStart h=std t (bits h % (t.mask+1)) (bits h) none:=rfl
theorem uQ (mask i:Nat):runEnd mask i - i<=9:=by unfold runEnd;split <;> omega
theorem oV (t:SetTable) (i pt:Nat) (d:Option Nat):∀(m j:Nat),wk t { j:=j,more:=m,i:=i,perturb:=pt,dummy:=d } m={ j:=j+m,more:=0,i:=i,perturb:=pt,dummy:=d }
 | 0,j=>rfl
 | m+1,j=>by
  show wk t (t.advance { j:=j,more:=m+1,i:=i,perturb:=pt,dummy:=d }) m=_
  have e:t.advance { j:=j,more:=m+1,i:=i,perturb:=pt,dummy:=d }={ j:=j+1,more:=m,i:=i,perturb:=pt,dummy:=d }:=by
   unfold advance
   rw [if_pos (Nat.succ_pos m)]
   rfl
  rw [e,oV t i pt d m (j+1)]
  simp only [Probe.mk.injEq,and_true,true_and]
  omega
theorem wX (t:SetTable) (i pt:Nat) (d:Option Nat):∃k,k<=10/\wk t (std t i pt d) k=std t (leap t.mask i pt).1 (leap t.mask i pt).2 d:=by
 refine⟨runEnd t.mask i - i+1,by have:=uQ t.mask i;omega,?_⟩
 rw [qA]
 unfold std
 rw [oV]
 unfold advance
 rw [if_neg (Nat.lt_irrefl 0)]
noncomputable def lps (mask:Nat):Nat->Nat × Nat->Nat × Nat
 | 0,x=>x
 | k+1,x=>lps mask k (leap mask x.1 x.2)
theorem mB (mask:Nat):∀(a b:Nat) (x:Nat × Nat),lps mask (a+b) x=lps mask b (lps mask a x)
 | 0,b,x=>by rw [Nat.zero_add];rfl
 | a+1,b,x=>by rw [Nat.succ_add];exact mB mask a b _
theorem t9 (t:SetTable) (d:Option Nat):∀(n:Nat) (x:Nat × Nat),∃k,k<=10 * n/\wk t (std t x.1 x.2 d) k=std t (lps t.mask n x).1 (lps t.mask n x).2 d
 | 0,x=>⟨0,Nat.le_refl _,rfl⟩
 | n+1,x=>by
  obtain⟨a,ha,ea⟩:=wX t x.1 x.2 d
  obtain⟨b,hb,eb⟩:=t9 t d n (leap t.mask x.1 x.2)
  exact⟨a+b,by omega,by rw [cS,ea];exact eb⟩
theorem qd (mask:Nat):∀(n:Nat) (x:Nat × Nat),(lps mask n x).2=x.2 / 32 ^ n
 | 0,x=>by rw [Nat.pow_zero,Nat.div_one];rfl
 | n+1,x=>by
  show (lps mask n (leap mask x.1 x.2)).2=_
  rw [qd mask n]
  show x.2 / 32 / 32 ^ n=_
  rw [Nat.div_div_eq_div_mul,Nat.pow_succ,Nat.mul_comm]
theorem qe (mask:Nat):∀(n:Nat) (x:Nat × Nat),x.1 < mask+1->(lps mask n x).1 < mask+1
 | 0,x,h=>h
 | n+1,x,h=>qe mask n _ (Nat.mod_lt _ (Nat.succ_pos _))
theorem my (mask:Nat):∀(n i:Nat),lps mask n (i,0)=(orb (mask+1) i n,0)
 | 0,i=>rfl
 | n+1,i=>by
  show lps mask n (leap mask i 0)=_
  have e:leap mask i 0=(lp (mask+1) i,0):=by
   unfold leap lp
   rw [Nat.zero_div,Nat.add_zero]
  rw [e,my mask n]
  rfl
theorem rF (h:Int):bits h < 2 ^ 64:=by
 unfold bits
 have h1:=Int.emod_nonneg h (show (2 ^ 64:Int)≠0 by decide)
 have h2:=Int.emod_lt_of_pos h (show (0:Int) < 2 ^ 64 by decide)
 have:((h % (2 ^ 64:Int)).toNat:Int) < ((2 ^ 64:Nat):Int):=by
  rw [Int.toNat_of_nonneg h1]
  exact h2
 exact Int.ofNat_lt.mp this
theorem zF {t:SetTable} (hm:t.mask+1∈[8,32,128,512,2048]) (h:Int){s:Nat} (hs:s<=t.mask):∃k,k<=10 * (13+t.mask)/\(wk t (t.probeStart h) k).j=s:=by
 have h0:bits h % (t.mask+1) < t.mask+1:=Nat.mod_lt _ (Nat.succ_pos _)
 have hi:=qe t.mask 13 (bits h % (t.mask+1),bits h) h0
 have hp:(lps t.mask 13 (bits h % (t.mask+1),bits h)).2=0:=by
  rw [qd]
  exact Nat.div_eq_of_lt (Nat.lt_of_lt_of_le (rF h) (by decide))
 obtain⟨m,hm',em⟩:=qV hm hi (Nat.lt_succ_of_le hs)
 obtain⟨k,hk,ek⟩:=t9 t none (13+m) (bits h % (t.mask+1),bits h)
 refine⟨k,by omega,?_⟩
 rw [rP,ek,mB]
 have e:lps t.mask 13 (bits h % (t.mask+1),bits h)=((lps t.mask 13 (bits h % (t.mask+1),bits h)).1,0):=Prod.ext rfl hp
 rw [e,my]
 exact em
inductive Mets (t:SetTable) (ha:Nat->Int) (h:Int) (p:Probe) (k:Nat) (r:Option Met):Prop
 | emp (m:Nat) (h1:m<=k) (h2:t.slot (wk t p m).j=.empty) (h3:∀x,x < m->∃i,t.slot (wk t p x).j=.live i/\ha i≠h) (h4:r=some (.empty (wk t p m).j p.dummy)):Mets t ha h p k r
 | can (m i:Nat) (h1:m < k) (h2:t.slot (wk t p m).j=.live i) (h3:ha i=h) (h4:∀x,x < m->∃i,t.slot (wk t p x).j=.live i/\ha i≠h) (h5:r=some (.candidate (wk t p m).j i (wk t p (m+1)))):Mets t ha h p k r
theorem lH (t:SetTable) (p:Probe):(t.advance p).dummy=p.dummy:=by
 unfold advance
 split <;> rfl
theorem go_mets {t:SetTable}{n:Nat} (T:Tb t n) (ha:Nat->Int) (h:Int):∀(fuel k:Nat) (p:Probe),k < fuel->t.slot (wk t p k).j=.empty->Mets t ha h p k (probe.go t ha h fuel p)
 | 0,k,p,hk,_=>absurd hk (Nat.not_lt_zero _)
 | fuel+1,k,p,hk,he=>by
  rcases slot_cases T p.j with hj | ⟨i,hj⟩
  ·refine .emp 0 (Nat.zero_le _) hj (λx hx=>absurd hx (Nat.not_lt_zero _)) ?_
   unfold probe.go
   rw [hj]
   rfl
  ·cases k with
   | zero=>rw [show t.slot p.j=.empty from he]at hj;cases hj
   | succ k=>
    by_cases hh:ha i=h
    ·refine .can 0 i (Nat.succ_pos _) hj hh (λx hx=>absurd hx (Nat.not_lt_zero _)) ?_
     unfold probe.go
     rw [hj]
     dsimp only
     rw [if_pos (by rw [hh];exact beq_self_eq_true _)]
     rfl
    ·have e:probe.go t ha h (fuel+1) p=probe.go t ha h fuel (t.advance p):=by
      rw [probe.go]
      rw [hj]
      dsimp only
      rw [if_neg (λy=>hh (eq_of_beq y))]
     rw [e]
     rcases go_mets T ha h fuel k (t.advance p) ‹1› he with⟨m,h1,h2,h3,h4⟩ | ⟨m,i2,h1,h2,h3,h4,h5⟩
     ·refine .emp (m+1) ‹1› h2 (λx hx=>?_) (by rw [h4,lH];rfl)
      cases x with
      | zero=>exact⟨i,hj,hh⟩
      | succ x=>exact h3 x ‹1›
     ·refine .can (m+1) i2 ‹1› h2 h3 (λx hx=>?_) h5
      cases x with
      | zero=>exact⟨i,hj,hh⟩
      | succ x=>exact h4 x ‹1›
end L2
namespace L2
open PySem PySem.SetTable
theorem cM {α:Type} (xs:Array α) (p:Nat) (x:α) (hp:p<=xs.size) (i:Nat):(insertAt xs p x)[i]?=if i < p then xs[i]? else if i=p then some x else xs[i - 1]?:=by
 unfold insertAt
 have hs:((xs.extract 0 p).push x).size=p+1:=by rw [Array.size_push,Array.size_extract];omega
 by_cases h1:i < p
 ·rw [if_pos h1,Array.getElem?_append_left ‹1›,Array.getElem?_push,if_neg (by rw [Array.size_extract];omega),Array.getElem?_extract,if_pos ‹1›,Nat.zero_add]
 ·rw [if_neg h1]
  by_cases h2:i=p
  ·rw [if_pos h2,Array.getElem?_append_left ‹1›,Array.getElem?_push,if_pos (by rw [Array.size_extract];omega)]
  ·rw [if_neg h2,Array.getElem?_append_right ‹1›,hs,Array.getElem?_extract]
   by_cases h3:i - (p+1) < xs.size - p
   ·rw [if_pos ‹1›,show p+(i - (p+1))=i - 1 by omega]
   ·rw [if_neg ‹1›,Array.getElem?_eq_none ‹1›]
theorem iw {α:Type} (xs:Array α) (p:Nat) (x:α) (hp:p<=xs.size):(insertAt xs p x).size=xs.size+1:=by
 unfold insertAt
 rw [Array.size_append,Array.size_push,Array.size_extract,Array.size_extract]
 omega
def Ent {α:Type} (t:SetTable) (es:Array (Int × α)) (j:Nat) (h:Int) (x:α):Prop:=∃i:Nat,t.place[i]?=some j/\es[i]?=some (h,x)
def lI (t:SetTable) (h:Int) (j:Nat):Prop:=∃k,(wk t (t.probeStart h) k).j=j/\∀m,m < k->t.slot (wk t (t.probeStart h) m).j≠.empty
structure Tbl {α:Type} (t:SetTable) (es:Array (Int × α)):Prop where
 tb:Tb t es.size
 reach:∀j h x,Ent t es j h x->lI t h j
theorem rg {α:Type}{t:SetTable}{es:Array (Int × α)} (T:Tb t es.size){j:Nat} (h:Int) (x:α) (j':Nat) (h':Int) (x':α):Ent (t.put j).1 (insertAt es (t.put j).2 (h,x)) j' h' x'↔Ent t es j' h' x'\/(j'=j/\h'=h/\x'=x):=by
 have hp:below t.place j<=t.place.size:=(dz T.ris j).le
 have hq:below t.place j<=es.size:=by rw [<- T.sz];exact hp
 unfold Ent put
 dsimp only
 constructor
 ·rintro⟨i,e1,e2⟩
  rw [cM _ _ _ hp]at e1
  rw [cM _ _ _ hq]at e2
  by_cases h1:i < below t.place j
  ·rw [if_pos h1]at e1 e2
   exact .inl ⟨i,e1,e2⟩
  ·rw [if_neg h1]at e1 e2
   by_cases h2:i=below t.place j
   ·rw [if_pos h2]at e1 e2
    cases e1;cases e2
    exact .inr ⟨rfl,rfl,rfl⟩
   ·rw [if_neg h2]at e1 e2
    exact .inl ⟨i - 1,e1,e2⟩
 ·rintro(⟨i,e1,e2⟩ | ⟨rfl,rfl,rfl⟩)
  ·by_cases h1:i < below t.place j
   ·exact⟨i,by rw [cM _ _ _ hp,if_pos h1];exact e1,by rw [cM _ _ _ hq,if_pos h1];exact e2⟩
   ·exact⟨i+1,by rw [cM _ _ _ hp,if_neg ‹1›,if_neg ‹1›];exact e1,by rw [cM _ _ _ hq,if_neg ‹1›,if_neg ‹1›];exact e2⟩
  ·exact⟨below t.place j',by rw [cM _ _ _ hp,if_neg ‹1›,if_pos rfl],by rw [cM _ _ _ hq,if_neg ‹1›,if_pos rfl]⟩
theorem Ar {t:SetTable}{n j:Nat} (T:Tb t n) (he:t.slot j=.empty) (hj:j<=t.mask):Tb (t.put j).1 (n+1):=by
 have c:=dz T.ris j
 have hp:=c.le
 have ne:=(fZ T).mp he
 have key:∀(i:Nat) (h:i < (insertAt t.place (below t.place j) j).size),some ((insertAt t.place (below t.place j) j)[i])=if i < below t.place j then t.place[i]? else if i=below t.place j then some j else t.place[i - 1]?:=λi h=>by
  rw [<- cM _ _ _ hp,Array.getElem?_eq_getElem h]
 have lo:∀i v,i < below t.place j->t.place[i]?=some v->v < j:=λi v hi e=>by
  obtain⟨h1,h2⟩:=Array.getElem?_eq_some_iff.mp e
  rw [<- h2];exact c.lo i h1 hi
 have hi_:∀i v,below t.place j<=i->t.place[i]?=some v->j < v:=λi v hi e=>by
  obtain⟨h1,h2⟩:=Array.getElem?_eq_some_iff.mp e
  have:=c.hi i h1 hi
  have n2:v≠j:=λz=>ne i (by rw [e,z])
  omega
 have rs:∀i k v w,t.place[i]?=some v->t.place[k]?=some w->i < k->v < w:=λi k v w e1 e2 hik=>by
  obtain⟨h1,rfl⟩:=Array.getElem?_eq_some_iff.mp e1
  obtain⟨h2,rfl⟩:=Array.getElem?_eq_some_iff.mp e2
  exact T.ris i k h1 h2 hik
 refine⟨λi k hi hk hik=>?_,?_,?_,λi hi=>?_⟩
 ·have a:=key i hi
  have b:=key k hk
  show (insertAt t.place (below t.place j) j)[i] < (insertAt t.place (below t.place j) j)[k]
  generalize (insertAt t.place (below t.place j) j)[i]=v at a ⊢
  generalize (insertAt t.place (below t.place j) j)[k]=w at b ⊢
  by_cases h1:i < below t.place j
  ·rw [if_pos h1]at a
   by_cases h2:k < below t.place j
   ·rw [if_pos h2]at b;exact rs i k v w a.symm b.symm hik
   ·rw [if_neg h2]at b
    by_cases h3:k=below t.place j
    ·rw [if_pos h3]at b;cases b;exact lo i v h1 a.symm
    ·rw [if_neg h3]at b
     exact Nat.lt_trans (lo i v h1 a.symm) (hi_ (k - 1) w ‹1› b.symm)
  ·rw [if_neg h1]at a
   have h2:¬k < below t.place j:=by omega
   have h3:k≠below t.place j:=by omega
   rw [if_neg h2,if_neg h3]at b
   by_cases h4:i=below t.place j
   ·rw [if_pos h4]at a;cases a;exact hi_ (k - 1) w ‹1› b.symm
   ·rw [if_neg h4]at a;exact rs (i - 1) (k - 1) v w a.symm b.symm ‹1›
 ·show (if has t.dummies j then _ else t.dummies)=_
  rw [T.dum]
  rfl
 ·show (insertAt t.place (below t.place j) j).size=_
  rw [iw _ _ _ hp,T.sz]
 ·have a:=key i hi
  show (insertAt t.place (below t.place j) j)[i]<=t.mask
  generalize (insertAt t.place (below t.place j) j)[i]=v at a ⊢
  have top:∀i v,t.place[i]?=some v->v<=t.mask:=λi v e=>by
   obtain⟨h1,rfl⟩:=Array.getElem?_eq_some_iff.mp e
   exact T.top i h1
  by_cases h1:i < below t.place j
  ·rw [if_pos h1]at a;exact top i v a.symm
  ·rw [if_neg h1]at a
   by_cases h4:i=below t.place j
   ·rw [if_pos h4]at a;cases a;exact hj
   ·rw [if_neg h4]at a;exact top _ v a.symm
end L2
namespace L2
open PySem PySem.SetTable
theorem wQ {t t':SetTable} (e:t'.mask=t.mask) (p:Probe):t'.advance p=t.advance p:=by
 unfold advance
 rw [e]
theorem gx {t t':SetTable} (e:t'.mask=t.mask):∀(k:Nat) (p:Probe),wk t' p k=wk t p k
 | 0,p=>rfl
 | k+1,p=>by
  show wk t' (t'.advance p) k=wk t (t.advance p) k
  rw [wQ e,gx e k]
theorem jh {t t':SetTable} (e:t'.mask=t.mask) (h:Int):t'.probeStart h=t.probeStart h:=by
 unfold probeStart
 rw [e]
theorem ed {t:SetTable}{n j:Nat} (T:Tb t n):t.slot j≠.empty↔∃i:Nat,t.place[i]?=some j:=by
 constructor
 ·intro h
  rcases slot_cases T j with z | ⟨i,z⟩
  ·exact absurd z h
  ·exact⟨i,(dq T).mp z⟩
 ·rintro⟨i,e⟩ z
  exact(fZ T).mp z i e
theorem gs {t t':SetTable}{n n':Nat}{h:Int}{j:Nat} (e:t'.mask=t.mask) (T:Tb t n) (T':Tb t' n') (sub:∀j,(∃i:Nat,t.place[i]?=some j)->∃i:Nat,t'.place[i]?=some j) (l:lI t h j):lI t' h j:=by
 obtain⟨k,e1,h1⟩:=l
 refine⟨k,by rw [jh e,gx e];exact e1,λm hm=>?_⟩
 rw [jh e,gx e]
 exact(ed T').mpr (sub _ ((ed T).mp (h1 m hm)))
section
variable {α:Type}{t:SetTable}{es:Array (Int × α)}
theorem mL (T:Tb t es.size){i j:Nat} (h:t.place[i]?=some j):∃h' x,Ent t es j h' x/\es[i]?=some (h',x):=by
 have hi:=(Array.getElem?_eq_some_iff.mp h).1
 rw [T.sz]at hi
 exact⟨es[i].1,es[i].2,⟨i,h,by rw [Array.getElem?_eq_getElem hi]⟩,by rw [Array.getElem?_eq_getElem hi]⟩
theorem wZ {j:Nat}{h:Int}{x:α} (T:Tbl t es) (he:t.slot j=.empty) (hj:j<=t.mask) (hl:lI t h j):Tbl (t.put j).1 (insertAt es (t.put j).2 (h,x)):=by
 have hq:(t.put j).2<=es.size:=by rw [<- T.tb.sz];exact(dz T.tb.ris j).le
 have T1:Tb (t.put j).1 (insertAt es (t.put j).2 (h,x)).size:=by rw [iw _ _ _ hq];exact Ar T.tb he hj
 have sub:∀j',(∃i:Nat,t.place[i]?=some j')->∃i:Nat,(t.put j).1.place[i]?=some j':=λj' ⟨i,e⟩=>by
  obtain⟨h',x',en,_⟩:=mL T.tb e
  obtain⟨i',e',_⟩:=(rg T.tb (j:=j) h x j' h' x').mpr (.inl en)
  exact⟨i',e'⟩
 refine⟨T1,λj' h' x' en=>?_⟩
 rcases (rg T.tb h x j' h' x').mp en with en | ⟨rfl,rfl,rfl⟩
 ·exact gs (t:=t) (t':=(t.put j).1) rfl T.tb T1 sub (T.reach j' h' x' en)
 ·exact gs (t:=t) (t':=(t.put j').1) rfl T.tb T1 sub hl
theorem yg {h:Int}{m:Nat} (T:Tbl t es) (he:t.slot (wk t (t.probeStart h) m).j=.empty){j:Nat}{x:α} (en:Ent t es j h x):∃k,k < m/\(wk t (t.probeStart h) k).j=j:=by
 obtain⟨k,e1,h1⟩:=T.reach j h x en
 obtain⟨i,ei,_⟩:=en
 refine⟨k,?_,e1⟩
 rcases Nat.lt_trichotomy k m with z | z | z
 ·exact z
 ·rw [<- z,e1]at he
  exact absurd he ((ed T.tb).mpr ⟨i,ei⟩)
 ·exact absurd he (h1 m z)
theorem gM:∀{l l':List Nat},l.Nodup->(∀x∈l,x∈l')->l.length<=l'.length
 | [],_,_,_=>Nat.zero_le _
 | a::l,l',nd,h=>by
  have ha:=h a List.mem_cons_self
  obtain⟨n1,n2⟩:=List.nodup_cons.mp nd
  have h1:=gM (l:=l) (l':=l'.erase a) n2 λx hx=>(List.mem_erase_of_ne (show x≠a from λz=>n1 (by rw [<- z];exact hx))).mpr (h x (List.mem_cons_of_mem _ hx))
  rw [List.length_erase_of_mem ha]at h1
  have:=List.length_pos_of_mem ha
  rw [List.length_cons]
  omega
theorem vo {n:Nat} (T:Tb t n) (hn:n<=t.mask):∃s,s<=t.mask/\t.slot s=.empty:=by
 refine Classical.byContradiction λhno=>?_
 have all:∀s,s<=t.mask->∃i:Nat,t.place[i]?=some s:=λs hs=>(ed T).mp λz=>hno ⟨s,hs,z⟩
 have sub:∀s∈List.range (t.mask+1),s∈t.place.toList:=λs hs=>by
  obtain⟨i,e⟩:=all s (by have:=List.mem_range.mp hs;omega)
  exact List.mem_of_getElem? (by rw [Array.getElem?_toList];exact e)
 have:=gM List.nodup_range sub
 rw [List.length_range,Array.length_toList,T.sz]at this
 omega
end
end L2
namespace L2
open PySem PySem.SetTable
noncomputable def tM (mask:Nat):SetTable:={ mask:=mask,place:=#[],dummies:=#[],finger:=0,led:=false,moves:=0,plain:=true }
noncomputable def Fr_ (owner:Array (Option Nat)) (j:Nat):Bool:=(owner.getD j (some 0)).isNone
def Via (mask:Nat) (owner:Array (Option Nat)) (p:Probe) (j:Nat):Prop:=∃k,(wk (tM mask) p k).j=j/\∀m,m < k->Fr_ owner (wk (tM mask) p m).j=false
theorem tu (mask i pt:Nat){m:Nat} (hm:m<=runEnd mask i - i):(wk (tM mask) (std (tM mask) i pt none) m).j=i+m:=by
 have h:∀(m r j:Nat),m<=r->(wk (tM mask) { j:=j,more:=r,i:=i,perturb:=pt,dummy:=none } m).j=j+m:=by
  intro m
  induction m with
  | zero=>intro r j _;rfl
  | succ m ih=>
   intro r j hr
   obtain⟨r,rfl⟩:∃r',r=r'+1:=⟨r - 1,by omega⟩
   show (wk (tM mask) ((tM mask).advance { j:=j,more:=r+1,i:=i,perturb:=pt,dummy:=none }) m).j=_
   have e:(tM mask).advance { j:=j,more:=r+1,i:=i,perturb:=pt,dummy:=none }={ j:=j+1,more:=r,i:=i,perturb:=pt,dummy:=none }:=by
    unfold advance
    rw [if_pos (Nat.succ_pos r)]
    rfl
   rw [e,ih r (j+1) ‹1›]
   omega
 exact h m _ i hm
theorem jR {p:Nat->Bool}:∀(n:Nat),(∀k,(List.range n).find? p=some k->k < n/\p k=true/\∀m,m < k->p m=false)/\((List.range n).find? p=none->∀m,m < n->p m=false):=by
 intro n
 refine⟨λk h=>?_,λh m hm=>?_⟩
 ·have h1:=List.find?_some h
  have h2:=List.mem_range.mp (List.mem_of_find?_eq_some h)
  refine⟨h2,h1,λm hm=>?_⟩
  rw [List.find?_eq_some_iff_getElem]at h
  obtain⟨_,i,hi,e,h3⟩:=h
  have e':i=k:=by rw [List.getElem_range]at e;exact e
  have:=h3 m ‹1›
  rw [List.getElem_range]at this
  simpa using this
 ·have:=List.find?_eq_none.mp h m (List.mem_range.mpr hm)
  simpa using this
theorem oB {mask:Nat}{owner:Array (Option Nat)}:∀(fuel i pt j:Nat),layClean.free mask owner fuel i pt=some j->Fr_ owner j=true/\Via mask owner (std (tM mask) i pt none) j
 | 0,_,_,_,h=>by cases h
 | fuel+1,i,pt,j,h=>by
  unfold layClean.free at h
  have fr:=jR (p:=λk=>(owner.getD (i+k) (some 0)).isNone) (runEnd mask i+1 - i)
  cases hf:(List.range (runEnd mask i+1 - i)).find? λk=>(owner.getD (i+k) (some 0)).isNone with
  | some k=>
   rw [hf]at h
   cases h
   obtain⟨h1,h2,h3⟩:=fr.1 k hf
   refine⟨h2,k,tu mask i pt ‹1›,λm hm=>?_⟩
   rw [tu mask i pt ‹1›]
   exact h3 m hm
  | none=>
   rw [hf]at h
   have h3:=fr.2 hf
   obtain⟨f1,k,e1,h2⟩:=oB fuel _ _ j h
   have hr:i<=runEnd mask i:=by unfold runEnd;split <;> omega
   have el:wk (tM mask) (std (tM mask) i pt none) (runEnd mask i - i+1)=std (tM mask) (leap mask i pt).1 (leap mask i pt).2 none:=by
    rw [qA]
    unfold std
    rw [show (tM mask).mask=mask from rfl,oV]
    unfold advance
    rw [if_neg (Nat.lt_irrefl 0)]
    rfl
   refine⟨f1,runEnd mask i - i+1+k,by rw [cS,el];exact e1,λm hm=>?_⟩
   by_cases hm2:m<=runEnd mask i - i
   ·rw [tu mask i pt hm2]
    exact h3 m ‹1›
   ·have:m=runEnd mask i - i+1+(m - (runEnd mask i - i+1)):=by omega
    rw [this,cS,el]
    exact h2 _ ‹1›
theorem lr {mask:Nat}{owner:Array (Option Nat)}:∀(fuel L i pt:Nat),L < fuel->Fr_ owner (lps mask L (i,pt)).1=true->∃j,layClean.free mask owner fuel i pt=some j
 | 0,L,_,_,h,_=>absurd h (Nat.not_lt_zero _)
 | fuel+1,L,i,pt,hL,hf=>by
  unfold layClean.free
  cases hq:(List.range (runEnd mask i+1 - i)).find? λk=>(owner.getD (i+k) (some 0)).isNone with
  | some k=>exact⟨_,rfl⟩
  | none=>
   cases L with
   | zero=>
    have hr:i<=runEnd mask i:=by unfold runEnd;split <;> omega
    have:=(jR (p:=λk=>(owner.getD (i+k) (some 0)).isNone) (runEnd mask i+1 - i)).2 hq 0 ‹1›
    rw [Nat.add_zero]at this
    rw [show (lps mask 0 (i,pt)).1=i from rfl]at hf
    rw [show (owner.getD i (some 0)).isNone=Fr_ owner i from rfl,hf]at this
    cases this
   | succ L=>exact lr fuel L _ _ ‹1› hf
theorem yo {mask:Nat}{owner:Array (Option Nat)} (hm:mask+1∈[8,32,128,512,2048]) (h:Int){s:Nat} (hs:s<=mask) (hf:Fr_ owner s=true):∃j,layClean.free mask owner (turns mask) (bits h % (mask+1)) (bits h)=some j:=by
 have h0:bits h % (mask+1) < mask+1:=Nat.mod_lt _ (Nat.succ_pos _)
 have hi:=qe mask 13 (bits h % (mask+1),bits h) h0
 have hp:(lps mask 13 (bits h % (mask+1),bits h)).2=0:=by
  rw [qd]
  exact Nat.div_eq_of_lt (Nat.lt_of_lt_of_le (rF h) (by decide))
 obtain⟨m,hm',em⟩:=qV hm hi (Nat.lt_succ_of_le hs)
 refine lr (turns mask) (13+m) _ _ (by unfold turns;omega) ?_
 rw [mB]
 have e:lps mask 13 (bits h % (mask+1),bits h)=((lps mask 13 (bits h % (mask+1),bits h)).1,0):=Prod.ext rfl hp
 rw [e,my,em]
 exact hf
end L2
namespace L2
open PySem PySem.SetTable
noncomputable def stH (mask:Nat) (h:Int):Probe:=std (tM mask) (bits h % (mask+1)) (bits h) none
theorem jO {owner:Array (Option Nat)}{j:Nat}:Fr_ owner j=true↔owner[j]?=some none:=by
 unfold Fr_
 rw [Array.getD_eq_getD_getElem?]
 cases h:owner[j]? with
 | none=>simp
 | some x=>cases x <;> simp
structure Lay (mask:Nat) (hs:List Int) (owner:Array (Option Nat)):Prop where
 sz:owner.size=mask+1
 at_:∀(k:Nat) (h:Int),hs[k]?=some h->∃j,owner[j]?=some (some k)/\Via mask owner (stH mask h) j
 lt:∀j k:Nat,owner[j]?=some (some k)->k < hs.length
 inj:∀j j' k:Nat,owner[j]?=some (some k)->owner[j']?=some (some k)->j=j'
theorem vW {mask:Nat}{hs:List Int}{owner:Array (Option Nat)} (L:Lay mask hs owner) (hn:hs.length<=mask):∃s,s<=mask/\Fr_ owner s=true:=by
 refine Classical.byContradiction λhno=>?_
 have all:∀s,s < mask+1->∃k,owner[s]?=some (some k):=λs hs'=>by
  have hlt:s < owner.size:=by rw [L.sz];exact hs'
  cases e:owner[s] with
  | none=>exact absurd ⟨s,by omega,jO.mpr (by rw [Array.getElem?_eq_getElem hlt,e])⟩ hno
  | some k=>exact⟨k,by rw [Array.getElem?_eq_getElem hlt,e]⟩
 let f:Nat->Nat:=λs=>((owner[s]?).getD none).getD 0
 have hf:∀s,s < mask+1->owner[s]?=some (some (f s)):=λs hs'=>by
  obtain⟨k,e⟩:=all s hs'
  show owner[s]?=some (some (((owner[s]?).getD none).getD 0))
  rw [e];rfl
 have nd:((List.range (mask+1)).map f).Nodup:=by
  rw [List.nodup_iff_pairwise_ne,List.pairwise_map]
  refine List.Pairwise.imp_of_mem ?_ (List.nodup_iff_pairwise_ne.mp List.nodup_range)
  intro a b ha hb hab z
  have ea:=hf a (List.mem_range.mp ha)
  have eb:=hf b (List.mem_range.mp hb)
  rw [z]at ea
  exact hab (L.inj _ _ _ ea eb)
 have:=gM (l':=List.range hs.length) nd λx hx=>by
  obtain⟨s,hs',rfl⟩:=List.mem_map.mp hx
  exact List.mem_range.mpr (L.lt _ _ (hf s (List.mem_range.mp hs')))
 rw [List.length_map,List.length_range,List.length_range]at this
 omega
theorem gF {owner:Array (Option Nat)}{j:Nat} (hj:j < owner.size) (v:Option Nat) (i:Nat):(owner.setIfInBounds j v)[i]?=if i=j then some v else owner[i]?:=by
 rw [Array.getElem?_setIfInBounds]
 by_cases h:j=i
 ·rw [if_pos h,if_pos h.symm,if_pos ‹1›]
 ·rw [if_neg h,if_neg (λz=>h z.symm)]
theorem vV {mask:Nat}{hs:List Int}{owner:Array (Option Nat)}{j:Nat}{h:Int} (L:Lay mask hs owner) (hf:layClean.free mask owner (turns mask) (bits h % (mask+1)) (bits h)=some j):Lay mask (hs++[h]) (owner.setIfInBounds j (some hs.length)):=by
 obtain⟨f1,v1⟩:=oB _ _ _ _ hf
 have ej:=jO.mp f1
 have hj:=(Array.getElem?_eq_some_iff.mp ej).1
 have keep:∀i,Fr_ owner i=false->Fr_ (owner.setIfInBounds j (some hs.length)) i=false:=λi hi=>by
  rw [Bool.eq_false_iff]at hi ⊢
  intro z
  have z:=jO.mp z
  rw [gF hj]at z
  by_cases e:i=j
  ·rw [if_pos e]at z;cases z
  ·rw [if_neg e]at z;exact hi (jO.mpr z)
 have via:∀{p:Probe}{j':Nat},Via mask owner p j'->Via mask (owner.setIfInBounds j (some hs.length)) p j':=λ⟨k,e,h'⟩=>⟨k,e,λm hm=>keep _ (h' m hm)⟩
 refine⟨by rw [Array.size_setIfInBounds];exact L.sz,λk h' e=>?_,λa k e=>?_,λa b k e1 e2=>?_⟩
 ·by_cases hk:k < hs.length
  ·rw [List.getElem?_append_left hk]at e
   obtain⟨j',e',v'⟩:=L.at_ k h' e
   refine⟨j',?_,via v'⟩
   rw [gF hj,if_neg (λz=>by rw [z,ej]at e';cases e')]
   exact e'
  ·rw [List.getElem?_append_right ‹1›]at e
   have hk2:k=hs.length:=by
    have:=(List.getElem?_eq_some_iff.mp e).1
    rw [List.length_singleton]at this
    omega
   subst hk2
   rw [Nat.sub_self]at e
   cases e
   exact⟨j,by rw [gF hj,if_pos rfl],via v1⟩
 ·rw [gF hj]at e
  rw [List.length_append,List.length_singleton]
  by_cases z:a=j
  ·rw [if_pos z]at e;cases e;omega
  ·rw [if_neg z]at e;have:=L.lt _ _ e;omega
 ·rw [gF hj]at e1 e2
  by_cases z:a=j
  ·rw [if_pos z]at e1
   cases e1
   by_cases y:b=j
   ·rw [z,y]
   ·rw [if_neg y]at e2
    exact absurd (L.lt _ _ e2) (Nat.lt_irrefl _)
  ·rw [if_neg z]at e1
   by_cases y:b=j
   ·rw [if_pos y]at e2
    cases e2
    exact absurd (L.lt _ _ e1) (Nat.lt_irrefl _)
   ·rw [if_neg y]at e2
    exact L.inj _ _ _ e1 e2
end L2
namespace L2
open PySem PySem.SetTable
noncomputable def tR (mask:Nat) (acc:Option (Array (Option Nat) × Nat)) (h:Int):Option (Array (Option Nat) × Nat):=do
 let (owner,k) <- acc
 let j <- layClean.free mask owner (turns mask) (bits h % (mask+1)) (bits h)
 pure (owner.setIfInBounds j (some k),k+1)
theorem oq {mask:Nat} (hm:mask+1∈[8,32,128,512,2048]):∀(l hs:List Int) (owner:Array (Option Nat)),Lay mask hs owner->hs.length+l.length<=mask+1->∃owner',l.foldl (tR mask) (some (owner,hs.length))=some (owner',hs.length+l.length)/\Lay mask (hs++l) owner'
 | [],hs,owner,L,_=>⟨owner,rfl,by rw [List.append_nil];exact L⟩
 | h::l,hs,owner,L,hn=>by
  rw [List.length_cons]at hn
  obtain⟨s,hs',hf⟩:=vW L ‹1›
  obtain⟨j,ej⟩:=yo hm h hs' hf
  have L1:=vV L ej
  have e1:tR mask (some (owner,hs.length)) h=some (owner.setIfInBounds j (some hs.length),hs.length+1):=by
   show (layClean.free mask owner (turns mask) (bits h % (mask+1)) (bits h) >>= λj=>pure (owner.setIfInBounds j (some hs.length),hs.length+1))=_
   rw [ej]
   rfl
  obtain⟨o',e2,L2⟩:=oq hm l (hs++[h]) _ L1 (by rw [List.length_append,List.length_singleton];omega)
  refine⟨o',?_,by rw [List.append_assoc]at L2;exact L2⟩
  rw [List.foldl_cons,e1]
  rw [List.length_append,List.length_singleton]at e2
  rw [e2,List.length_cons]
  congr 2
  omega
theorem sD {mask:Nat} (hm:mask+1∈[8,32,128,512,2048]) (hs:Array Int) (hn:hs.size<=mask+1):∃owner,layClean mask hs=some owner/\Lay mask hs.toList owner:=by
 have L0:Lay mask [] (Array.replicate (mask+1) none):=by
  have no:∀(j k:Nat),(Array.replicate (mask+1) (none:Option Nat))[j]?≠some (some k):=λj k e=>by
   rw [Array.getElem?_replicate]at e
   split at e <;> cases e
  exact⟨Array.size_replicate,(λk h e=>by cases e),(λj k e=>absurd e (no j k)),λj j' k e _=>absurd e (no j k)⟩
 obtain⟨o,e,L⟩:=oq hm hs.toList [] _ L0 (by rw [List.length_nil,Array.length_toList];omega)
 refine⟨o,?_,L⟩
 show (hs.foldl (tR mask) (some (Array.replicate (mask+1) none,0))).map (·.1)=some o
 rw [<- Array.foldl_toList,show (some (Array.replicate (mask+1) (none:Option Nat),0))=some (Array.replicate (mask+1) (none:Option Nat),([]:List Int).length) from rfl,e]
 rfl
noncomputable def bR (mask:Nat) (owner:Array (Option Nat)):List (Nat × Nat):=(List.range (mask+1)).filterMap λj=>(owner.getD j none).map (j,·)
theorem cy {mask:Nat}{owner:Array (Option Nat)} (hsz:owner.size=mask+1){j k:Nat}:(j,k)∈bR mask owner↔owner[j]?=some (some k):=by
 unfold bR
 rw [List.mem_filterMap]
 constructor
 ·rintro⟨a,_,e⟩
  rw [Array.getD_eq_getD_getElem?]at e
  cases h:owner[a]? with
  | none=>rw [h]at e;cases e
  | some v=>
   rw [h]at e
   cases v with
   | none=>cases e
   | some k'=>cases e;exact h
 ·intro h
  have hj:=(Array.getElem?_eq_some_iff.mp h).1
  refine⟨j,List.mem_range.mpr ‹1›,?_⟩
  rw [Array.getD_eq_getD_getElem?,h]
  rfl
theorem oj (mask:Nat) (owner:Array (Option Nat)):(bR mask owner).Pairwise λa b=>a.1 < b.1:=by
 unfold bR
 rw [List.pairwise_filterMap]
 refine List.Pairwise.imp ?_ List.pairwise_lt_range
 intro a b hab x hx y hy
 obtain⟨k,_,rfl⟩:=Option.map_eq_some_iff.mp hx
 obtain⟨k',_,rfl⟩:=Option.map_eq_some_iff.mp hy
 exact hab
end L2
namespace L2
open PySem PySem.SetTable
theorem qk {α β:Type}{f:α->Option β}:∀{l:List α} (i:Nat),(∀k∈l,∃v,f k=some v)->(l.filterMap f)[i]?=(l[i]?).bind f
 | [],i,_=>rfl
 | a::l,i,h=>by
  obtain⟨v,e⟩:=h a List.mem_cons_self
  rw [List.filterMap_cons_some e]
  cases i with
  | zero=>exact e.symm
  | succ i=>exact qk i λk hk=>h k (List.mem_cons_of_mem _ hk)
theorem wm {α β:Type}{f:α->Option β}:∀{l:List α},(∀k∈l,∃v,f k=some v)->(l.filterMap f).length=l.length
 | [],_=>rfl
 | a::l,h=>by
  obtain⟨v,e⟩:=h a List.mem_cons_self
  rw [List.filterMap_cons_some e,List.length_cons,List.length_cons,wm λk hk=>h k (List.mem_cons_of_mem _ hk)]
section
variable {α:Type}{es:Array (Int × α)}{mask:Nat}{owner:Array (Option Nat)}
noncomputable def tL (mask finger moves:Nat) (led plain:Bool) (owner:Array (Option Nat)):SetTable:={ mask:=mask,place:=((bR mask owner).map (·.1)).toArray,dummies:=#[],finger:=finger,led:=led,moves:=moves,plain:=plain }
theorem om (L:Lay mask (es.map (·.1)).toList owner):(bR mask owner).length=es.size:=by
 have hl:(es.map (·.1)).toList.length=es.size:=by rw [Array.length_toList,Array.size_map]
 have ris:=oj mask owner
 have nd:((bR mask owner).map (·.2)).Nodup:=by
  rw [List.nodup_iff_pairwise_ne,List.pairwise_map]
  refine List.Pairwise.imp_of_mem ?_ ris
  intro a b ha hb hab z
  have ea:=(cy L.sz (j:=a.1) (k:=a.2)).mp ha
  have eb:=(cy L.sz (j:=b.1) (k:=b.2)).mp hb
  rw [z]at ea
  have:=L.inj _ _ _ ea eb
  omega
 have h1:=gM (l':=List.range es.size) nd λx hx=>by
  obtain⟨a,ha,rfl⟩:=List.mem_map.mp hx
  have:=L.lt _ _ ((cy L.sz (j:=a.1) (k:=a.2)).mp ha)
  rw [hl]at this
  exact List.mem_range.mpr this
 have h2:=gM (l':=(bR mask owner).map (·.2)) (List.nodup_range (n:=es.size)) λx hx=>by
  have hx:=List.mem_range.mp hx
  have:(es.map (·.1)).toList[x]?=some es[x].1:=by
   rw [Array.getElem?_toList,Array.getElem?_map,Array.getElem?_eq_getElem hx];rfl
  obtain⟨j,ej,_⟩:=L.at_ x _ this
  exact List.mem_map.mpr ⟨(j,x),(cy L.sz).mpr ej,rfl⟩
 rw [List.length_map,List.length_range]at h1
 rw [List.length_map,List.length_range]at h2
 omega
theorem wp (L:Lay mask (es.map (·.1)).toList owner) (i:Nat):((((bR mask owner).map (·.2)).toArray).filterMap (es[·]?))[i]?=((bR mask owner)[i]?).bind λa=>es[a.2]?:=by
 have hl:(es.map (·.1)).toList.length=es.size:=by rw [Array.length_toList,Array.size_map]
 have all:∀k∈(bR mask owner).map (·.2),∃v,es[k]?=some v:=λk hk=>by
  obtain⟨a,ha,rfl⟩:=List.mem_map.mp hk
  have:=L.lt _ _ ((cy L.sz (j:=a.1) (k:=a.2)).mp ha)
  rw [hl]at this
  exact⟨_,Array.getElem?_eq_getElem this⟩
 rw [<- Array.getElem?_toList,Array.toList_filterMap,qk i all,List.getElem?_map]
 cases (bR mask owner)[i]? <;> rfl
theorem rf (L:Lay mask (es.map (·.1)).toList owner):((((bR mask owner).map (·.2)).toArray).filterMap (es[·]?)).size=es.size:=by
 have hl:(es.map (·.1)).toList.length=es.size:=by rw [Array.length_toList,Array.size_map]
 have all:∀k∈(bR mask owner).map (·.2),∃v,es[k]?=some v:=λk hk=>by
  obtain⟨a,ha,rfl⟩:=List.mem_map.mp hk
  have:=L.lt _ _ ((cy L.sz (j:=a.1) (k:=a.2)).mp ha)
  rw [hl]at this
  exact⟨_,Array.getElem?_eq_getElem this⟩
 rw [<- Array.length_toList,Array.toList_filterMap,wm all,List.length_map,om L]
theorem jW {finger moves:Nat}{led plain:Bool} (L:Lay mask (es.map (·.1)).toList owner) (j:Nat) (h:Int) (x:α):Ent (tL mask finger moves led plain owner) ((((bR mask owner).map (·.2)).toArray).filterMap (es[·]?)) j h x↔∃k:Nat,owner[j]?=some (some k)/\es[k]?=some (h,x):=by
 constructor
 ·rintro⟨i,e1,e2⟩
  rw [wp L]at e2
  have e1:((bR mask owner).map (·.1)).toArray[i]?=some j:=e1
  rw [List.getElem?_toArray,List.getElem?_map]at e1
  obtain⟨a,ea,rfl⟩:=Option.map_eq_some_iff.mp e1
  rw [ea]at e2
  exact⟨a.2,(cy L.sz).mp (List.mem_of_getElem? ea),e2⟩
 ·rintro⟨k,e1,e2⟩
  obtain⟨i,hi,ei⟩:=List.getElem_of_mem ((cy L.sz).mpr e1)
  have ei':(bR mask owner)[i]?=some (j,k):=by rw [List.getElem?_eq_getElem hi,ei]
  refine⟨i,?_,by rw [wp L,ei'];exact e2⟩
  show ((bR mask owner).map (·.1)).toArray[i]?=some j
  rw [List.getElem?_toArray,List.getElem?_map,ei']
  rfl
end
end L2
namespace L2
open PySem PySem.SetTable
theorem pR {mask i:Nat} (h:i<=mask):i<=runEnd mask i/\runEnd mask i<=mask:=by unfold runEnd;split <;> omega
theorem tm (t:SetTable):∀(k:Nat) (p:Probe),p.j+p.more<=t.mask->(wk t p k).j<=t.mask
 | 0,p,h=>by show p.j<=_;omega
 | k+1,p,h=>by
  refine tm t k (t.advance p) ?_
  unfold advance
  by_cases hm:p.more > 0
  ·rw [if_pos hm]
   show p.j+1+(p.more - 1)<=_
   omega
  ·rw [if_neg hm]
   show (leap t.mask p.i p.perturb).1+(runEnd t.mask (leap t.mask p.i p.perturb).1 - (leap t.mask p.i p.perturb).1)<=t.mask
   have h1:(leap t.mask p.i p.perturb).1 < t.mask+1:=Nat.mod_lt _ (Nat.succ_pos _)
   have h2:=pR (mask:=t.mask) (i:=(leap t.mask p.i p.perturb).1) ‹1›
   omega
theorem BC (mask:Nat) (h:Int) (k:Nat):(wk (tM mask) (stH mask h) k).j<=mask:=by
 refine tm (tM mask) k (stH mask h) ?_
 show bits h % (mask+1)+(runEnd mask (bits h % (mask+1)) - bits h % (mask+1))<=mask
 have h1:bits h % (mask+1) < mask+1:=Nat.mod_lt _ (Nat.succ_pos _)
 have h2:=pR (mask:=mask) (i:=bits h % (mask+1)) ‹1›
 omega
section
variable {α:Type}{es:Array (Int × α)}{mask finger moves:Nat}{led plain:Bool}{owner:Array (Option Nat)}
theorem x8 (L:Lay mask (es.map (·.1)).toList owner):Tb (tL mask finger moves led plain owner) es.size:=by
 have ris:=oj mask owner
 have sz:((bR mask owner).map (·.1)).toArray.size=es.size:=by rw [List.size_toArray,List.length_map,om L]
 have get:∀(i:Nat) (hi:i < (tL mask finger moves led plain owner).place.size),((bR mask owner).map (·.1))[i]?=some ((tL mask finger moves led plain owner).place[i]):=λi hi=>by
  rw [<- Array.getElem?_eq_getElem hi]
  show _=((bR mask owner).map (·.1)).toArray[i]?
  rw [List.getElem?_toArray]
 refine⟨λi k hi hk hik=>?_,rfl,sz,λi hi=>?_⟩
 ·have pw:((bR mask owner).map (·.1)).Pairwise (· < ·):=by rw [List.pairwise_map];exact ris
  obtain⟨h1,e1⟩:=List.getElem?_eq_some_iff.mp (get i hi)
  obtain⟨h2,e2⟩:=List.getElem?_eq_some_iff.mp (get k hk)
  rw [<- e1,<- e2]
  exact List.pairwise_iff_getElem.mp pw i k h1 h2 hik
 ·have hm:=List.mem_of_getElem? (get i hi)
  obtain⟨a,ha,e⟩:=List.mem_map.mp hm
  have:=(cy L.sz (j:=a.1) (k:=a.2)).mp ha
  have h1:=(Array.getElem?_eq_some_iff.mp this).1
  rw [L.sz]at h1
  rw [<- e]
  show a.1<=mask
  omega
theorem tK (L:Lay mask (es.map (·.1)).toList owner):Tbl (tL mask finger moves led plain owner) ((((bR mask owner).map (·.2)).toArray).filterMap (es[·]?)):=by
 have T:Tb (tL mask finger moves led plain owner) es.size:=x8 L
 refine⟨by rw [rf L];exact T,λj h x en=>?_⟩
 obtain⟨k,e1,e2⟩:=(jW L j h x).mp en
 have ek:(es.map (·.1)).toList[k]?=some h:=by
  rw [Array.getElem?_toList,Array.getElem?_map,e2];rfl
 obtain⟨j',e3,m,e4,h4⟩:=L.at_ k h ek
 obtain rfl:=L.inj _ _ _ e1 e3
 refine⟨m,?_,λx hx=>?_⟩
 ·rw [gx (t:=tM mask) (t':=tL mask finger moves led plain owner) rfl];exact e4
 ·have hf:=h4 x hx
  have hle:=BC mask h x
  rw [gx (t:=tM mask) (t':=tL mask finger moves led plain owner) rfl]
  show (tL mask finger moves led plain owner).slot (wk (tM mask) (stH mask h) x).j≠.empty
  generalize (wk (tM mask) (stH mask h) x).j=s at hf hle ⊢
  have hlt:s < owner.size:=by rw [L.sz];omega
  cases ev:owner[s] with
  | none=>
   rw [jO.mpr (by rw [Array.getElem?_eq_getElem hlt,ev])]at hf
   cases hf
  | some k'=>
   have hmem:=(cy L.sz).mpr (show owner[s]?=some (some k') by rw [Array.getElem?_eq_getElem hlt,ev])
   obtain⟨i,hi,ei⟩:=List.getElem_of_mem hmem
   refine(ed T).mpr ⟨i,?_⟩
   show ((bR mask owner).map (·.1)).toArray[i]?=some s
   rw [List.getElem?_toArray,List.getElem?_map,List.getElem?_eq_getElem hi,ei]
   rfl
end
theorem rZ {α:Type}{t:SetTable}{es:Array (Int × α)}{n:Nat} (hm:sizeAbove n∈[8,32,128,512,2048]) (hn:es.size<=sizeAbove n):∃(t':SetTable) (order:Array Nat),t.relaid (es.map (·.1)) n=some (t',order)/\t'.mask=sizeAbove n - 1/\t'.led=t.led/\t'.plain=t.plain/\(order.filterMap (es[·]?)).size=es.size/\Tbl t' (order.filterMap (es[·]?))/\∀h x,(∃j,Ent t' (order.filterMap (es[·]?)) j h x)↔∃k:Nat,es[k]?=some (h,x):=by
 have hp:sizeAbove n - 1+1=sizeAbove n:=by
  have:0 < sizeAbove n:=by
   simp only [List.mem_cons,List.not_mem_nil,or_false]at hm
   omega
  omega
 obtain⟨owner,e,L⟩:=sD (mask:=sizeAbove n - 1) (by rw [hp];exact hm) (es.map (·.1)) (by rw [Array.size_map,hp];exact hn)
 refine⟨tL (sizeAbove n - 1) t.finger (t.movedTo (sizeAbove n - 1)) t.led t.plain owner,((bR (sizeAbove n - 1) owner).map (·.2)).toArray,?_,rfl,rfl,rfl,rf L,tK L,λh x=>⟨λ⟨j,en⟩=>?_,λ⟨k,ek⟩=>?_⟩⟩
 ·unfold relaid SetTable.laid
  rw [e]
  rfl
 ·obtain⟨k,_,e2⟩:=(jW L j h x).mp en
  exact⟨k,e2⟩
 ·have eh:(es.map (·.1)).toList[k]?=some h:=by
   rw [Array.getElem?_toList,Array.getElem?_map,ek];rfl
  obtain⟨j,ej,_⟩:=L.at_ k h eh
  exact⟨j,(jW L j h x).mpr ⟨k,ej,ek⟩⟩
end L2
namespace L2
open PySem PySem.Spec PySem.SetTable PyProof.Rows
noncomputable abbrev KZ:=List Key × Addr
noncomputable def bu (prog:Program) (w:World) (k:List Key):Int:=tupleKeyHash (aJ prog w) k
noncomputable def kA (prog:Program) (w:World) (z:KZ):Int × Value:=(bu prog w z.1,.ref z.2)
def Siz (mask n:Nat):Prop:=(mask=7/\n < 5)\/(mask=31/\n < 19)\/(mask=127/\n < 77)\/(mask=511/\n < 307)\/(mask=2047/\n < 1229)
theorem Siz.mem {mask n:Nat} (h:Siz mask n):mask+1∈[8,32,128,512,2048]:=by
 rcases h with⟨h,_⟩ | ⟨h,_⟩ | ⟨h,_⟩ | ⟨h,_⟩ | ⟨h,_⟩ <;> rw [h] <;> decide
theorem Siz.odd {mask n:Nat} (h:Siz mask n):(mask % 2 == 0)=false:=by
 rcases h with⟨h,_⟩ | ⟨h,_⟩ | ⟨h,_⟩ | ⟨h,_⟩ | ⟨h,_⟩ <;> rw [h] <;> decide
theorem Siz.le {mask n:Nat} (h:Siz mask n):n<=mask/\mask<=2047:=by unfold Siz at h;omega
structure SetD (prog:Program) (w:World) (led:Bool) (zs:List KZ) (es:Array (Int × Value)) (t:SetTable):Prop where
 tb:Tbl t es
 sz:Siz t.mask es.size
 ld:t.led=led
 nd:(zs.map (·.1)).Nodup
 pm:es.toList.Perm (zs.map (kA prog w))
theorem SetD.fits {prog:Program}{w:World}{led:Bool}{zs:List KZ}{es:Array (Int × Value)}{t:SetTable} (D:SetD prog w led zs es t):t.fits es.size=true:=by
 have h1:=D.tb.tb.sz
 have h2:=D.tb.tb.dum
 have h3:=D.sz.le
 unfold SetTable.fits SetTable.fill
 rw [h2,h1,Bool.and_eq_true]
 exact⟨beq_self_eq_true _,decide_eq_true (by show es.size+0<=_;omega)⟩
theorem SetD.at_ {prog:Program}{w:World}{led:Bool}{zs:List KZ}{es:Array (Int × Value)}{t:SetTable} (D:SetD prog w led zs es t){i:Nat}{hv:Int × Value} (h:es[i]?=some hv):∃z∈zs,hv=kA prog w z:=by
 have:=D.pm.mem_iff.mp (List.mem_of_getElem? (by rw [Array.getElem?_toList];exact h))
 obtain⟨z,hz,e⟩:=List.mem_map.mp this
 exact⟨z,hz,e.symm⟩
theorem SetD.has {prog:Program}{w:World}{led:Bool}{zs:List KZ}{es:Array (Int × Value)}{t:SetTable} (D:SetD prog w led zs es t){z:KZ} (h:z∈zs):∃i:Nat,es[i]?=some (kA prog w z):=by
 have:=D.pm.mem_iff.mpr (List.mem_map_of_mem (f:=kA prog w) h)
 obtain⟨i,hi,e⟩:=List.getElem_of_mem this
 exact⟨i,by rw [<- Array.getElem?_toList,List.getElem?_eq_getElem hi,e]⟩
section
variable {prog:Program}{w:World}{A:Around}{E:Value->Shared->Prop}{s:Shared}
theorem rE {k:List Key}{b:Addr}{Q:Bool->Shared->Prop} (hk:IsTupleKey (aJ prog w) s.heap k b) (h:Q false s):wpAny (model prog w) A (ofAClassStatement 8 (.ref b)) Q E s:=by
 have hT:=hk.typeIs
 obtain⟨o,items,n,ho,hc,hd,hi⟩:=hk
 unfold ofAClassStatement
 refine zB0 (wpAny_typeOf hT ?_)
 dsimp only
 refine zB0 (zP0 ?_)
 refine zB0 (wpAny_seqItems ho hd ?_)
 dsimp only
 refine zB0 ?_
 rw [<- Array.forIn_toList]
 refine wpAny_forIn_list _ (λrest r s'=>r.1=none/\s'=s/\∀v∈rest,carriedByValue v=true) _ ?_ ?_ _ _ ⟨rfl,rfl,hi.byValue⟩
 ·rintro v rest r s' ⟨hr,rfl,hall⟩
  have e:ofAClassStatement 7 v=pure false:=by
   have:=hall v List.mem_cons_self
   cases v with
   | ref a=>simp [carriedByValue]at this
   | _=>first | rfl | simp [ofAClassStatement]
  rw [e]
  refine zB0 (zP0 ?_)
  simp only [Bool.false_eq_true,if_false]
  exact zP0 ⟨rfl,rfl,λu hu'=>hall u (List.mem_cons_of_mem _ hu')⟩
 ·rintro⟨r1,r2⟩ s' ⟨hr,rfl,_⟩
  simp only at hr
  subst hr
  exact zP0 h
theorem yf {k:List Key}{b:Addr}{Q:Bool->Shared->Prop}{vs:List Value} (hk:IsTupleKey (aJ prog w) s.heap k b) (hv:∀v∈vs,∃k' b',v=.ref b'/\IsTupleKey (aJ prog w) s.heap k' b') (h:Q false s):wpAny (model prog w) A (searchCouldBeSeen (.ref b) vs) Q E s:=by
 unfold searchCouldBeSeen
 refine zB0 ?_
 refine wpAny_forIn_list _ (λrest r s'=>r.1=none/\s'=s/\∀v∈rest,∃k' b',v=.ref b'/\IsTupleKey (aJ prog w) s.heap k' b') _ ?_ ?_ _ _ ⟨rfl,rfl,hv⟩
 ·rintro v rest r s' ⟨hr,rfl,hall⟩
  obtain⟨k',b',rfl,hk'⟩:=hall v List.mem_cons_self
  have fin:r.1=none/\s'=s'/\∀v∈rest,∃k' b',v=.ref b'/\IsTupleKey (aJ prog w) s'.heap k' b':=⟨hr,rfl,λu hu'=>hall u (List.mem_cons_of_mem _ hu')⟩
  dsimp only
  split
  ·exact zP0 ⟨rfl,rfl,λu hu'=>hall u (List.mem_cons_of_mem _ hu')⟩
  ·refine zB0 (wpAny_eqIsQuiet_tuple hk ?_)
   simp only [Bool.not_true,Bool.false_eq_true,if_false]
   refine zB0 (wpAny_eqIsQuiet_tuple hk' ?_)
   simp only [Bool.not_true,Bool.false_eq_true,if_false]
   refine zB0 (rE hk ?_)
   simp only [Bool.false_eq_true,if_false]
   refine zB0 (rE hk' ?_)
   simp only [Bool.false_eq_true,if_false]
   exact zP0 ⟨rfl,rfl,λu hu'=>hall u (List.mem_cons_of_mem _ hu')⟩
 ·rintro⟨r1,r2⟩ s' ⟨hr,rfl,_⟩
  simp only at hr
  subst hr
  exact zP0 h
theorem Cc {k:List Key}{b:Addr}{Q:Bool->Shared->Prop} (hk:IsTupleKey (aJ prog w) s.heap k b) (h:∀r,Q r s):wpAny (model prog w) A (hashByValue 8 (.ref b)) Q E s:=by
 have hT:=hk.typeIs
 obtain⟨o,items,n,ho,hc,hd,hi⟩:=hk
 unfold hashByValue
 refine zB0 (wpAny_specialOf hT F.slot_tuple_hash.lookup ?_)
 dsimp only
 refine zB0 (wpAny_seqItems ho hd ?_)
 refine zB0 ?_
 show wpAny _ _ (forIn items _ _) _ _ s
 rw [<- Array.forIn_toList]
 refine wpAny_forIn_list _ (λrest r s'=>r.1=none/\s'=s/\∀v∈rest,carriedByValue v=true) _ ?_ ?_ _ _ ⟨rfl,rfl,hi.byValue⟩
 ·rintro v rest r s' ⟨hr,rfl,hall⟩
  have e:∃c,hashByValue 7 v=pure c:=by
   have:=hall v List.mem_cons_self
   cases v with
   | ref a=>simp [carriedByValue]at this
   | _=>exact⟨_,rfl⟩
  obtain⟨c,e⟩:=e
  rw [e]
  refine zB0 (zP0 ?_)
  cases c with
  | false=>
   simp only [Bool.not_false,if_true]
   exact zP0 (zP0 (h _))
  | true=>
   simp only [Bool.not_true,Bool.false_eq_true,if_false]
   exact zP0 ⟨rfl,rfl,λu hu'=>hall u (List.mem_cons_of_mem _ hu')⟩
 ·rintro⟨r1,r2⟩ s' ⟨hr,rfl,_⟩
  simp only at hr
  subst hr
  exact zP0 (h _)
end
end L2
namespace L2
open PySem PySem.Spec PySem.SetTable PyProof.Rows
section
variable {prog:Program}{w:World}{A:Around}{E:Value->Shared->Prop}{s:Shared}{a b:Addr}{k:List Key}{o:Obj}{es:Array (Int × Value)}{ep:Nat}{t:SetTable}{led:Bool}{zs:List KZ}{Q:SetFound->Shared->Prop}
theorem nB (a:Addr):isSame (.ref a) (.ref a)=pure true:=by
 unfold isSame
 simp only [beq_self_eq_true,if_true]
theorem gc (hu:A.units < cLine) (ho:s.heap.get? a=some o) (hd:o.data=.set es ep t) (D:SetD prog w led zs es t) (hk:IsTupleKey (aJ prog w) s.heap k b) (his:∀z∈zs,IsTupleKey (aJ prog w) s.heap z.1 z.2)
  (hno:k∉zs.map (·.1)->∀j,t.slot j=.empty->j<=t.mask->lI t (bu prog w k) j->Q (.free j false) s) (hyes:k∈zs.map (·.1)->Q (.there none) s)
  {K0:Nat} (hK:K0<=10 * (13+t.mask)) (he:t.slot (wk t (t.probeStart (bu prog w k)) K0).j=.empty) :
  ∀(fuel m0:Nat) (stand:Option Probe),stand.getD (t.probeStart (bu prog w k))=wk t (t.probeStart (bu prog w k)) m0->m0<=K0->K0 - m0 < fuel->(∀x,x < m0->∃i z,t.slot (wk t (t.probeStart (bu prog w k)) x).j=.live i/\es[i]?=some (kA prog w z)/\z∈zs/\(z.1≠k\/bu prog w z.1≠bu prog w k))->
   wpAny (model prog w) A (setSearchFrom a (.ref b) (bu prog w k) true fuel stand) Q E s
 | 0,_,_,_,_,h,_=>absurd h (Nat.not_lt_zero _)
 | fuel+1,m0,stand,hs,hm,hf,vis=>by
  unfold setSearchFrom
  refine zB0 (wpAny_setState_of ho hd D.fits ?_)
  dsimp only
  have gw:t.gaveWay=false:=D.sz.odd
  rw [gw]
  simp only [Bool.false_eq_true,if_false]
  have dum:(wk t (t.probeStart (bu prog w k)) m0).dummy=none:=by
   have:∀(n:Nat) (p:Probe),p.dummy=none->(wk t p n).dummy=none:=λn=>by
    induction n with
    | zero=>intro p h;exact h
    | succ n ih=>intro p h;exact ih _ (by rw [lH];exact h)
   exact this m0 _ rfl
  rw [hs]
  k_delta "storedHashAt"
  have fz:10 * turns t.mask=10 * t.mask+150:=by unfold turns;omega
  have M:Mets t (λi=>(es[i]?.map (·.1)).getD 0) (bu prog w k) (wk t (t.probeStart (bu prog w k)) m0) (K0 - m0) (t.probe (λi=>(es[i]?.map (·.1)).getD 0) (bu prog w k) (wk t (t.probeStart (bu prog w k)) m0)):=
   go_mets D.tb.tb _ _ (10 * turns t.mask) (K0 - m0) _ (by rw [fz];omega) (by rw [<- cS,Nat.add_sub_cancel' hm];exact he)
  revert M
  generalize t.probe (λi=>(es[i]?.map (·.1)).getD 0) (bu prog w k) (wk t (t.probeStart (bu prog w k)) m0)=r
  intro M
  have jle:∀x,(wk t (t.probeStart (bu prog w k)) x).j<=t.mask:=λx=>by
   refine tm t x _ ?_
   show bits (bu prog w k) % (t.mask+1)+(runEnd t.mask (bits (bu prog w k) % (t.mask+1)) - bits (bu prog w k) % (t.mask+1))<=t.mask
   have h1:bits (bu prog w k) % (t.mask+1) < t.mask+1:=Nat.mod_lt _ (Nat.succ_pos _)
   have h2:=pR (mask:=t.mask) (i:=bits (bu prog w k) % (t.mask+1)) ‹1›
   omega
  rcases M with⟨m,h1,h2,h3,h4⟩ | ⟨m,i,h1,h2,h3,h4,h5⟩
  ·subst h4
   dsimp only
   rw [dum]
   dsimp only
   rw [<- cS]at h2 ⊢
   refine zP0 (hno (λhin=>?_) _ h2 (jle _) ⟨m0+m,rfl,λx hx=>?_⟩)
   ·obtain⟨z,hz,ez⟩:=List.mem_map.mp hin
    obtain⟨i,ei⟩:=D.has hz
    have hi:i < t.place.size:=by rw [D.tb.tb.sz];exact(Array.getElem?_eq_some_iff.mp ei).1
    have ep':t.place[i]?=some t.place[i]:=Array.getElem?_eq_getElem hi
    obtain⟨x,hx,ex⟩:=yg D.tb h2 (j:=t.place[i]) (x:=Value.ref z.2) ⟨i,ep',by rw [ei];unfold kA;rw [ez]⟩
    have sl:=(dq D.tb.tb).mpr ep'
    rw [<- ex]at sl
    by_cases hx0:x < m0
    ·obtain⟨i',z',v1,v2,v3,v4⟩:=vis x hx0
     rw [v1]at sl
     cases sl
     rw [v2]at ei
     have e2:z'.2=z.2:=by
      have:=congrArg Prod.snd (Option.some.inj ei)
      exact Value.ref.inj this
     have e1:z'.1=z.1:=(his z' v3).inj (by rw [e2];exact his z hz)
     rcases v4 with v4 | v4
     ·exact v4 (e1.trans ez)
     ·exact v4 (by rw [e1,ez])
    ·obtain⟨i',v1,v2⟩:=h3 (x - m0) ‹1›
     rw [<- cS,Nat.add_sub_cancel' ‹1›,sl]at v1
     cases v1
     refine v2 ?_
     rw [ei]
     show bu prog w z.1=_
     rw [ez]
   ·by_cases hx0:x < m0
    ·obtain⟨i',z',v1,_⟩:=vis x hx0
     rw [v1];exact λz=>nomatch z
    ·obtain⟨i',v1,v2⟩:=h3 (x - m0) ‹1›
     rw [<- cS,Nat.add_sub_cancel' ‹1›]at v1
     rw [v1];exact λz=>nomatch z
  ·subst h5
   rw [<- cS]at h2
   rw [<- cS,<- cS]
   have ep':=(dq D.tb.tb).mp h2
   have hi:i < es.size:=by rw [<- D.tb.tb.sz];exact(Array.getElem?_eq_some_iff.mp ep').1
   obtain⟨z,hz,ez⟩:=D.at_ (Array.getElem?_eq_getElem hi)
   have ei:es[i]?=some (bu prog w z.1,Value.ref z.2):=by rw [Array.getElem?_eq_getElem hi,ez];rfl
   have hkz:=his z hz
   dsimp only
   have go:∀x,x < m0+m->∃i z,t.slot (wk t (t.probeStart (bu prog w k)) x).j=.live i/\es[i]?=some (kA prog w z)/\z∈zs/\(z.1≠k\/bu prog w z.1≠bu prog w k):=λx hx=>by
    by_cases hx0:x < m0
    ·exact vis x hx0
    ·obtain⟨i',v1,v2⟩:=h4 (x - m0) ‹1›
     rw [<- cS,Nat.add_sub_cancel' ‹1›]at v1
     have ep2:=(dq D.tb.tb).mp v1
     have hi2:i' < es.size:=by rw [<- D.tb.tb.sz];exact(Array.getElem?_eq_some_iff.mp ep2).1
     obtain⟨z',hz',ez'⟩:=D.at_ (Array.getElem?_eq_getElem hi2)
     refine⟨i',z',v1,by rw [Array.getElem?_eq_getElem hi2,ez'],hz',.inr λq=>v2 ?_⟩
     rw [Array.getElem?_eq_getElem hi2,ez']
     exact q
   have sm:t.sameMemory t.moves t.mask=some true:=by unfold sameMemory;rw [if_pos (beq_self_eq_true _)]
   split
   ·refine zB0 (yf hk (λv hv=>?_) ?_)
    ·obtain⟨e1,he1,rfl⟩:=List.mem_map.mp hv
     obtain⟨z',hz',ez'⟩:=List.mem_map.mp (D.pm.mem_iff.mp (List.mem_filter.mp (by rw [<- Array.toList_filter];exact he1)).1)
     exact⟨z'.1,z'.2,by rw [<- ez'];rfl,his z' hz'⟩
    simp only [Bool.false_eq_true,if_false]
    rw [ei]
    dsimp only
    refine zB0 (wpAny_holding (wpAny_eqBool_tuple hu hkz hk ?_))
    refine zB0 (wpAny_setState_of ho hd D.fits ?_)
    dsimp only
    by_cases hq:z.1=k
    ·rw [decide_eq_true hq]
     simp only [Bool.and_self,if_true]
     exact zP0 (hyes (List.mem_map.mpr ⟨z,hz,hq⟩))
    ·rw [decide_eq_false hq]
     simp only [Bool.and_false,Bool.false_eq_true,if_false]
     rw [sm]
     dsimp only
     rw [if_pos rfl,h2]
     dsimp only
     rw [ei]
     dsimp only
     refine zB0 (wpAny_of_eq (nB z.2) ?_)
     refine zB0 (zP0 ?_)
     rw [if_pos rfl]
     refine gc hu ho hd D hk his hno hyes hK he fuel (m0+(m+1)) _ rfl ‹1› ‹1› λx hx=>?_
     by_cases hx1:x < m0+m
     ·exact go x hx1
     ·have ex:x=m0+m:=by omega
      subst ex
      exact⟨i,z,h2,ei,hz,.inl hq⟩
   ·rw [ei]
    dsimp only
    refine zB0 (wpAny_holding (wpAny_eqBool_tuple hu hkz hk ?_))
    refine zB0 (wpAny_setState_of ho hd D.fits ?_)
    dsimp only
    by_cases hq:z.1=k
    ·rw [decide_eq_true hq]
     simp only [Bool.and_self,if_true]
     exact zP0 (hyes (List.mem_map.mpr ⟨z,hz,hq⟩))
    ·rw [decide_eq_false hq]
     simp only [Bool.and_false,Bool.false_eq_true,if_false]
     rw [sm]
     dsimp only
     rw [if_pos rfl,h2]
     dsimp only
     rw [ei]
     dsimp only
     refine zB0 (wpAny_of_eq (nB z.2) ?_)
     refine zB0 (zP0 ?_)
     rw [if_pos rfl]
     refine gc hu ho hd D hk his hno hyes hK he fuel (m0+(m+1)) _ rfl ‹1› ‹1› λx hx=>?_
     by_cases hx1:x < m0+m
     ·exact go x hx1
     ·have ex:x=m0+m:=by omega
      subst ex
      exact⟨i,z,h2,ei,hz,.inl hq⟩
theorem xm (hu:A.units < cLine) (ho:s.heap.get? a=some o) (hd:o.data=.set es ep t) (D:SetD prog w led zs es t) (hk:IsTupleKey (aJ prog w) s.heap k b) (his:∀z∈zs,IsTupleKey (aJ prog w) s.heap z.1 z.2)
  (hno:k∉zs.map (·.1)->∀j,t.slot j=.empty->j<=t.mask->lI t (bu prog w k) j->Q (.free j false) s) (hyes:k∈zs.map (·.1)->Q (.there none) s) :
  wpAny (model prog w) A (setSearch a (.ref b) (bu prog w k) true) Q E s:=by
 obtain⟨f,hf,ef⟩:=vo D.tb.tb D.sz.le.1
 obtain⟨K0,h1,h2⟩:=zF D.sz.mem (bu prog w k) hf
 have:=D.sz.le.2
 unfold setSearch
 exact gc hu ho hd D hk his hno hyes h1 (by rw [h2];exact ef) 100000 0 none rfl (Nat.zero_le _) ‹1› λx hx=>absurd hx (Nat.not_lt_zero _)
theorem tJ {α:Type}{es:Array (Int × α)}{t t':SetTable} (e1:t'.mask=t.mask) (e2:t'.place=t.place) (e3:t'.dummies=t.dummies) (T:Tbl t es):Tbl t' es:=by
 have T1:Tb t' es.size:=⟨by rw [e2];exact T.tb.ris,by rw [e3];exact T.tb.dum,by rw [e2];exact T.tb.sz,by rw [e1];intro i h;have:=T.tb.top i (by rw [<- e2];exact h);simpa only [e2] using this⟩
 refine⟨T1,λj h x en=>gs e1 T.tb T1 (λj' q=>by rw [e2];exact q) (T.reach j h x ?_)⟩
 obtain⟨i,a1,a2⟩:=en
 exact⟨i,by rw [<- e2];exact a1,a2⟩
theorem siz_next {mask n:Nat} (h:Siz mask n) (hn:n < 1000):((n+1) * 5>=mask * 3/\sizeAbove (grown (n+1))∈[8,32,128,512,2048]/\Siz (sizeAbove (grown (n+1)) - 1) (n+1))\/(¬(n+1) * 5>=mask * 3/\Siz mask (n+1)):=by
 have g:∀m,m<=1000->grown m=m * 4:=λm hm=>by unfold grown;rw [if_neg ‹1›]
 rcases h with⟨rfl,h⟩ | ⟨rfl,h⟩ | ⟨rfl,h⟩ | ⟨rfl,h⟩ | ⟨rfl,h⟩
 ·by_cases e:n=4
  ·subst e;exact .inl ⟨by omega,by decide,by unfold Siz;exact .inr (.inl ⟨by decide,by omega⟩)⟩
  ·exact .inr ⟨by omega,.inl ⟨rfl,by omega⟩⟩
 ·by_cases e:n=18
  ·subst e;exact .inl ⟨by omega,by decide,by unfold Siz;exact .inr (.inr (.inl ⟨by decide,by omega⟩))⟩
  ·exact .inr ⟨by omega,.inr (.inl ⟨rfl,by omega⟩)⟩
 ·by_cases e:n=76
  ·subst e;exact .inl ⟨by omega,by decide,by unfold Siz;exact .inr (.inr (.inr (.inl ⟨by decide,by omega⟩)))⟩
  ·exact .inr ⟨by omega,.inr (.inr (.inl ⟨rfl,by omega⟩))⟩
 ·by_cases e:n=306
  ·subst e;exact .inl ⟨by omega,by decide,by unfold Siz;exact .inr (.inr (.inr (.inr ⟨by decide,by omega⟩)))⟩
  ·exact .inr ⟨by omega,.inr (.inr (.inr (.inl ⟨rfl,by omega⟩)))⟩
 ·exact .inr ⟨by omega,.inr (.inr (.inr (.inr ⟨rfl,by omega⟩)))⟩
open Classical in
noncomputable def iL (zs:List KZ) (z:KZ):List KZ:=if z.1∈zs.map (·.1) then zs else zs++[z]
def eB (prog:Program) (w:World) (a:Addr) (led:Bool) (zs:List KZ) (h:Heap):Prop:=∃o es ep t,h.get? a=some o/\o.ExactSet/\o.data=.set es ep t/\SetD prog w led zs es t
theorem jz {α:Type}:∀{l l':List α},l.Nodup->(∀x∈l,x∈l')->l'.length<=l.length->l.Perm l'
 | [],l',_,_,h=>by rw [List.length_eq_zero_iff.mp (Nat.le_zero.mp h)]
 | a::l,l',nd,hs,h=>by
  obtain⟨n1,n2⟩:=List.nodup_cons.mp nd
  obtain⟨u,v,rfl⟩:=List.append_of_mem (hs a List.mem_cons_self)
  have ih:=jz (l:=l) (l':=u++v) n2 (λx hx=>by
   have:=hs x (List.mem_cons_of_mem _ hx)
   rw [List.mem_append,List.mem_cons]at this
   rw [List.mem_append]
   rcases this with q | q | q
   ·exact .inl q
   ·exact absurd (q ▸ hx) n1
   ·exact .inr q) (by simp only [List.length_append,List.length_cons]at h ⊢;omega)
  exact(ih.cons a).trans List.perm_middle.symm
theorem sL {h:Heap}{zs:List KZ} (nd:(zs.map (·.1)).Nodup) (his:∀z∈zs,IsTupleKey (aJ prog w) h z.1 z.2):(zs.map (kA prog w)).Nodup:=by
 rw [List.nodup_iff_pairwise_ne,List.pairwise_map]at nd ⊢
 refine nd.imp_of_mem λ{x y} hx hy ne e=>ne ?_
 have e2:x.2=y.2:=Value.ref.inj (congrArg Prod.snd e)
 exact(his x hx).inj (by rw [e2];exact his y hy)
theorem Al {Q:Unit->Shared->Prop}{n:Nat} (ho:s.heap.get? a=some o) (hx:o.ExactSet) (hd:o.data=.set es ep t) (hf:t.fits es.size=true) (hm:sizeAbove n∈[8,32,128,512,2048]) (hn:es.size<=sizeAbove n) (hl:t.led=led) (nd:(zs.map (·.1)).Nodup) (pm:es.toList.Perm (zs.map (kA prog w))) (hs:Siz (sizeAbove n - 1) es.size) (nde:es.toList.Nodup)
  (h:∀h',Heap.SameBut a s.heap h'->eB prog w a led zs h'->Q () { s with heap:=h' }):wpAny (model prog w) A (setRelay a n) Q E s:=by
 unfold setRelay
 refine zB0 (wpAny_setState_of ho hd hf ?_)
 dsimp only
 have z0:¬sizeAbove n > sizeLine:=by
  simp only [List.mem_cons,List.not_mem_nil,or_false]at hm
  rw [sizeLine_eq]
  omega
 rw [if_neg z0]
 obtain⟨t',ord,e,em,el,epl,ez,T,en⟩:=rZ (t:=t) (es:=es) hm hn
 rw [e]
 k_delta "reordered"
 dsimp only
 rw [if_neg (by rw [ez];simp)]
 refine zB0 (zP0 ?_)
 dsimp only
 have hp:(Array.filterMap (λx=>es[x]?) ord).toList.Perm es.toList:=by
  refine(jz nde (λx hx=>?_) (by rw [Array.length_toList,Array.length_toList,ez];exact Nat.le_refl _)).symm
  obtain⟨i,hi,ei⟩:=List.getElem_of_mem hx
  obtain⟨j,i',_,e2⟩:=(en x.1 x.2).mpr ⟨i,by rw [<- Array.getElem?_toList,List.getElem?_eq_getElem hi,ei]⟩
  exact List.mem_of_getElem? (by rw [Array.getElem?_toList];exact e2)
 refine wpAny_storeSet_of ho hd (h _ (Heap.SameBut.update ..) ⟨{ o with data:=.set (Array.filterMap (λx=>es[x]?) ord) (ep+1) t' },_,_,t',?_,hx,rfl,⟨T,by rw [em,ez];exact hs,el.trans hl,nd,hp.trans pm⟩⟩) (by rw [ez,sizeLine_eq];have:=hs.le;omega)
 have:=Heap.get?_update_self (Obj.putSet (Array.filterMap (λx=>es[x]?) ord) t') ho (by rw [putSet_of _ t' hd];rfl)
 rw [putSet_of _ t' hd]at this
 exact this
theorem D4 {Q:Bool->Shared->Prop} (hu:A.units < cLine) (S:eB prog w a led zs s.heap) (hl:zs.length < 1000) (hk:IsTupleKey (aJ prog w) s.heap k b) (his:∀z∈zs,IsTupleKey (aJ prog w) s.heap z.1 z.2)
  (h:∀r h',Heap.SameBut a s.heap h'->eB prog w a led (iL zs (k,b)) h'->Q r { s with heap:=h' }):wpAny (model prog w) A (setAddHashed a (.ref b) (bu prog w k)) Q E s:=by
 obtain⟨o,es,ep,t,ho,hx,hd,D⟩:=S
 have hsz:es.size=zs.length:=by
  have:=D.pm.length_eq
  rw [List.length_map,Array.length_toList]at this
  exact this
 unfold setAddHashed setAddHashedIn
 refine wpAny_holding (zB0 (wpAny_setState_of ho hd D.fits ?_))
 dsimp only
 have bs:byScan (.ref b) es=false:=rfl
 rw [bs]
 simp only [Bool.false_eq_true,if_false]
 refine zB0 (xm hu ho hd D hk his (λhn j h1 h2 h3=>?_) λhy=>?_)
 ·refine zB0 (wpAny_setState_of ho hd D.fits ?_)
  dsimp only
  have ez:iL zs (k,b)=zs++[(k,b)]:=by unfold iL;rw [if_neg hn]
  have T1:=wZ (x:=Value.ref b) D.tb h1 h2 h3
  have P1:(insertAt es (t.put j).2 (bu prog w k,Value.ref b)).toList.Perm ((zs++[(k,b)]).map (kA prog w)):=by
   refine(SetTable.insertAt_perm es _ _).trans ?_
   rw [Array.toList_push,List.map_append]
   exact D.pm.append_right _
  have N1:((zs++[(k,b)]).map (·.1)).Nodup:=by
   rw [List.map_append,List.nodup_append]
   refine⟨D.nd,by simp,λx hx y hy=>?_⟩
   simp only [List.map_cons,List.map_nil,List.mem_singleton]at hy
   subst hy
   exact λe=>hn (e ▸ hx)
  have zq:(t.put j).2<=es.size:=by rw [<- D.tb.tb.sz];exact(dz D.tb.tb.ris j).le
  have Z1:(insertAt es (t.put j).2 (bu prog w k,Value.ref b)).size=es.size+1:=iw _ _ _ zq
  have key:∀t1:SetTable,t1.mask=t.mask->t1.place=(t.put j).1.place->t1.dummies=(t.put j).1.dummies->t1.led=t.led->wpAny (model prog w) A (do
    storeSet a (insertAt es (t.put j).2 (bu prog w k,Value.ref b)) t1
    if (!false && t1.tooFull)=true then do
      setRelay a (SetTable.grown (es.size+1))
      pure true
     else pure true) Q E s:=λt1 q1 q2 q3 q4=>by
   have T2:Tbl t1 (insertAt es (t.put j).2 (bu prog w k,Value.ref b)):=tJ (t:=(t.put j).1) q1 q2 q3 T1
   have g1:(s.heap.update a (Obj.putSet (insertAt es (t.put j).2 (bu prog w k,Value.ref b)) t1)).get? a=some { o with data:=.set (insertAt es (t.put j).2 (bu prog w k,Value.ref b)) (ep+1) t1 }:=by
    have:=Heap.get?_update_self (Obj.putSet (insertAt es (t.put j).2 (bu prog w k,Value.ref b)) t1) ho (by rw [putSet_of _ t1 hd];rfl)
    rw [putSet_of _ t1 hd]at this
    exact this
   have b1:=Heap.SameBut.update s.heap a (Obj.putSet (insertAt es (t.put j).2 (bu prog w k,Value.ref b)) t1)
   refine zB0 (wpAny_storeSet_of ho hd ?_ (by rw [Z1,sizeLine_eq];omega))
   have fl:t1.fill=es.size+1:=by
    unfold SetTable.fill
    rw [T2.tb.sz,T2.tb.dum,Z1]
    rfl
   rcases siz_next D.sz ‹1› with⟨f1,f2,f3⟩ | ⟨f1,f2⟩
   ·have tf:t1.tooFull=true:=by unfold tooFull;rw [fl,q1];exact decide_eq_true f1
    rw [tf,if_pos (show (!false && true)=true from rfl)]
    refine zB0 (Al g1 hx rfl ?_ f2 (by rw [Z1];have:=f3.le;omega) (q4.trans D.ld) N1 P1 (by rw [Z1];exact f3) ?_ λh' b2 S2=>zP0 ?_)
    ·unfold SetTable.fits
     rw [fl,T2.tb.sz,q1,Z1,Bool.and_eq_true]
     have:=D.sz
     unfold Siz at this
     exact⟨beq_self_eq_true _,decide_eq_true ‹1›⟩
    ·exact P1.nodup_iff.mpr (sL N1 λz hz=>by
      rcases List.mem_append.mp hz with hz | hz
      ·exact his z hz
      ·rw [List.mem_singleton.mp hz];exact hk)
    ·exact h true h' (b1.trans b2) (by rw [ez];exact S2)
   ·have tf:t1.tooFull=false:=by unfold tooFull;rw [fl,q1];exact decide_eq_false f1
    rw [tf]
    refine zP0 (h true _ b1 (by rw [ez];exact⟨_,_,_,t1,g1,hx,rfl,⟨T2,by rw [Z1,q1];exact f2,q4.trans D.ld,N1,P1⟩⟩))
  split
  ·refine zB0 (Cc hk λr=>?_)
   cases r with
   | true=>
    simp only [if_true]
    exact key _ rfl rfl rfl rfl
   | false=>
    simp only [Bool.false_eq_true,if_false]
    exact key _ rfl rfl rfl rfl
  ·refine zB0 (zP0 ?_)
   simp only [if_true]
   exact key _ rfl rfl rfl rfl
 ·have ez:iL zs (k,b)=zs:=by unfold iL;rw [if_pos hy]
  exact zP0 (h false s.heap (Heap.SameBut.refl a s.heap) (by rw [ez];exact⟨o,es,ep,t,ho,hx,hd,D⟩))
end
end L2
namespace L2
open PySem PySem.Spec PyProof.Rows
noncomputable def eO (w:World):Bool:=!(w.params.followText "set-order")
theorem eB.at_ {P:Program}{w:World}{a:Addr}{led:Bool}{zs:List KZ}{h h':Heap} (x:eB P w a led zs h) (e:∀o,h.get? a=some o->h'.get? a=some o):eB P w a led zs h':=by
 obtain⟨o,es,ep,t,ho,r⟩:=x
 exact⟨o,es,ep,t,e o ho,r⟩
noncomputable def ddZ (zs:List KZ) (i:Nat):List KZ:=(zs.take i).foldl iL []
theorem oK {zs:List KZ}{i:Nat}{z:KZ} (h:zs[i]?=some z):ddZ zs (i+1)=iL (ddZ zs i) z:=by
 unfold ddZ
 rw [List.take_add_one,h,List.foldl_append]
 rfl
theorem addZ_mem {zs:List KZ}{z x:KZ} (h:x∈iL zs z):x∈zs\/x=z:=by
 unfold iL at h
 split at h
 ·exact .inl h
 ·rcases List.mem_append.mp h with h | h
  ·exact .inl h
  ·exact .inr (List.mem_singleton.mp h)
theorem mM {zs:List KZ}:∀(i:Nat){x:KZ},x∈ddZ zs i->x∈zs
 | 0,x,h=>by cases h
 | i+1,x,h=>by
  cases e:zs[i]? with
  | none=>
   have hl:zs.length<=i:=List.getElem?_eq_none_iff.mp e
   have:ddZ zs (i+1)=ddZ zs i:=by unfold ddZ;rw [List.take_of_length_le ‹1›,List.take_of_length_le hl]
   rw [this]at h
   exact mM i h
  | some z=>
   rw [oK e]at h
   rcases addZ_mem h with h | rfl
   ·exact mM i h
   ·exact List.mem_of_getElem? e
section
variable {prog:Program}{w:World}{A:Around}{R:Result->Shared->Prop}{it:Addr}{fp wr:List Addr}{G:Array GenState->Array GenState->Prop}{P:Nat->Value->Prop}{St:Nat->Shared->Prop}
def wU (zs:List KZ):Prop:=∀i,i < zs.length->(ddZ zs i).length < 1000
theorem rT {zs:List KZ} (W:WalksS prog w A.in1 it fp wr G zs.length P St) (S:Addr) (hS:S∉fp) (val:∀i v,P i v->∃z,zs[i]?=some z/\v=.ref z.2) (hb:wU zs) (hu:A.in1.units < cLine) (nS:∀z∈zs,z.2≠S/\z.2∉wr){led:Bool} :
  ∀(k i:Nat) (s:Shared),zs.length - i=k->i<=zs.length->St i s->(∀z∈zs,IsTupleKey (aJ prog w) s.heap z.1 z.2)->eB prog w S led (ddZ zs i) s.heap->
   (∀s',Moved (S::wr) G s s'->eB prog w S led (ddZ zs zs.length) s'.heap->R (.ok (.ret .none)) s')->
   codeAny (model prog w) A (.builtin "set.update.loop" ⟨[.ref S,.ref it],[]⟩) R s:=by
 have nw:S∉wr:=λz=>hS (W.sub _ z)
 have up:∀b∈wr,b∈S::wr:=λb z=>List.mem_cons_of_mem _ z
 intro k
 induction k with
 | zero=>
  intro i s ek le st ks x fin
  have e:i=zs.length:=by omega
  subst e
  refine codeAny_builtin F.entry_set_update_loop ?_
  rw [Around.under_plainId F.plain_set_update_loop _]
  show wpAny _ A.in1 (pyNext (.ref it) >>= _) _ _ s
  refine zB0 (W.done s _ _ st λs' mv=>?_)
  exact zP0 (fin s' (mv.mono up) (x.at_ λo e=>mv.heap S o nw e))
 | succ k ih=>
  intro i s ek le st ks x fin
  refine codeAny_builtin F.entry_set_update_loop ?_
  rw [Around.under_plainId F.plain_set_update_loop _]
  show wpAny _ A.in1 (pyNext (.ref it) >>= _) _ _ s
  refine zB0 (W.item i s _ _ ‹1› st λv s' pv st' mv=>?_)
  obtain⟨z,ez,rfl⟩:=val i v pv
  have hz:z∈zs:=List.mem_of_getElem? ez
  have x':=x.at_ λo e=>mv.heap S o nw e
  have ks':∀z∈zs,IsTupleKey (aJ prog w) s'.heap z.1 z.2:=λz hz=>by
   obtain⟨o,its,n,ho,r⟩:=ks z hz
   exact⟨o,its,n,mv.heap _ _ (nS z hz).2 ho,r⟩
  show wpAny _ A.in1 (holding [Value.ref z.2] (setAdd S (.ref z.2)) >>= _) _ _ s'
  refine zB0 (wpAny_holding ?_)
  unfold setAdd
  refine wpAny_holding ?_
  refine zB0 (wpAny_pyHash_tuple hu (ks' z hz) ?_)
  refine D4 (s:={ s' with toks:=s'.toks+(z.1.length+1) }) hu x' (hb i ‹1›) (ks' z hz) (λz' hz'=>ks' z' (mM i hz')) λr h' sb x2=>?_
  have x3:eB prog w S led (ddZ zs (i+1)) h':=by rw [oK ez];exact x2
  refine zP0 ⟨plainId_quiet F.plain_set_update_loop _,ih (i+1) _ ‹1› ‹1› (W.frame _ s' _ _ st' (Nat.le_add_right _ _) λb hb o e=>?_) (λz hz=>?_) x3 λs'' mv'' x4=>?_⟩
  ·rw [sb.2 b (λh:b=S=>hS (by rw [<- h];exact hb))];exact e
  ·obtain⟨o,its,n,ho,r⟩:=ks' z hz
   exact⟨o,its,n,(sb.2 z.2 (nS z hz).1).trans ho,r⟩
  ·refine fin s'' (Moved.trans W.gtrans ((mv.mono up).then_heap (Nat.le_add_right _ _) λb o hb e=>?_) mv'') x4
   rw [sb.2 b (λh:b=S=>hb (by rw [h];exact List.mem_cons_self))];exact e
end
section
variable {prog:Program}{w:World}{A:Around}{E:Value->Shared->Prop}{s:Shared}
open PySem.F in
theorem ue (a:Value){Q₁:Value->Shared->Prop} (h:Q₁ (.ref s.heap.objs.size) { s with heap:=s.heap.push (bL (eO w)) }) :
  codeAny (model prog w) A (.call (.builtin "set.__new__") ⟨[.type "set", a],[]⟩) (wants Q₁ E) s:=by
 refine codeAny_of_tree ?_
 show wpAny _ A.in1 (do checkBuiltinCall "set.__new__" ⟨[.type "set", a],[]⟩;again (.builtin "set.__new__" ⟨[.type "set", a],[]⟩)) _ _ s
 refine zB0 (wpAny_of_eq (F.newCall_set_1 a) (zP0 ⟨plainId_quiet F.plain_set_new _,codeAny_builtin F.entry_set_new ?_⟩))
 rw [Around.under_plainId F.plain_set_new _]
 unfold Builtin.«set.__new__» Builtin.Frozenset.newClass
 have hsub:=sub_set_self
 obtain⟨hp,g,d,tk,os⟩:=s
 dsimp only
 wp_walk
 refine wpAny_askSetting (zP0 ?_)
 dsimp only
 simp only [newObj]
 refine zB0 (wpAny_alloc (zP0 ?_))
 exact zP0 h
theorem B5 (P:Program) (h:Heap){a:Addr} (hS:h.get? a=some (bL (eO w))):eB P w a (eO w) [] h:=by
 refine⟨_,#[],0,_,hS,⟨rfl,rfl,rfl⟩,rfl,⟨⟨⟨λi k hi=>absurd hi (Nat.not_lt_zero _),rfl,rfl,λi hi=>absurd hi (Nat.not_lt_zero _)⟩,λj h x ⟨i,e,_⟩=>?_⟩,.inl ⟨rfl,by show 0 < 5;omega⟩,rfl,.nil,.nil⟩⟩
 simp [SetTable.fresh]at e
theorem kB {l:Addr}{its:Array Value}{zs:List KZ}{Q:Value->Shared->Prop} (hh:A.handled=none) (hu:A.units+8 < cLine) (hl:s.heap.IsList l its) (hs:its.toList=zs.map λz=>Value.ref z.2) (hk:∀z∈zs,IsTupleKey (aJ prog w) s.heap z.1 z.2) (hb:wU zs)
  (q:∀(h':Heap) (tk:Nat),eB prog w s.heap.objs.size (eO w) (ddZ zs zs.length) h'->(∀a o,a < s.heap.objs.size->s.heap.get? a=some o->h'.get? a=some o)->Q (.ref s.heap.objs.size) { s with heap:=h',toks:=tk }) :
  wpAny (model prog w) A (call (.type "set") [.ref l]) Q E s:=by
 have ft:=PySem.F.called_set
 obtain⟨c0,tl0,m0⟩:=ft.mro
 have m1:=ft.made
 have m2:=ft.sub
 have hlen:its.size=zs.length:=by
  have:=congrArg List.length hs
  rw [Array.length_toList,List.length_map]at this
  exact this
 refine wpAny_call (codeAny_of_tree ?_)
 show wpAny _ _ (callAny (.type "set") _) _ _ _
 refine zP0 ⟨Code.quiet_builtin _ ‹0›,codeAny_builtin PySem.F.entry_type_call ?_⟩
 rw [Around.under_plain (weight_type_call_type "set" [.ref l] []) rfl]
 have m3:=ft.notType
 have m4:=ft.canCreate
 have m5:=PySem.F.typeCall_set_1 (.ref l)
 repeat (any_goals (first | assumption | wp_step))
 refine codeAny_mono (ue (.ref l) (E:=E) (Q₁:=λo s1=>o=.ref s.heap.objs.size/\s1={ s with heap:=s.heap.push (bL (eO w)) }) ⟨rfl,rfl⟩) λr s1 hr=>?_
 cases r with
 | error e=>exact hr
 | ok fl=>
  cases fl with
  | ret o=>
   obtain⟨rfl,rfl⟩:=hr
   generalize eb:eO w=b at q
   have hS:(s.heap.push (bL b)).get? s.heap.objs.size=some (bL b):=Heap.get?_push_size _ rfl
   have hT:Shared.TypeIs { s with heap:=s.heap.push (bL b) } (.ref s.heap.objs.size) "set":=⟨_,hS,rfl⟩
   have n1:=ft.init.lookup
   have n2:=ft.init.bind (.ref s.heap.objs.size)
   repeat (any_goals (first | assumption | wp_step))
   refine codeAny_mono (codeAny_call_builtin (R:=wants (λr s2=>r=.none/\∃h' tk,s2={ s with heap:=h',toks:=tk }/\eB prog w s.heap.objs.size b (ddZ zs zs.length) h'/\∀a o,a < s.heap.objs.size->s.heap.get? a=some o->h'.get? a=some o) E) ft.init.plain PySem.F.entry_set_init (PySem.check_set_init_1 hT ?_)) λr2 s2 hr2=>?_
   ·obtain⟨ol,hol,hcl,nl,hdl⟩:=hl
    obtain⟨oc,od,oa,os⟩:=ol
    simp only at hcl hdl
    subst hcl;subst hdl
    have ho1:(s.heap.push (bL b)).get? l=some { cls:=.type "list", dict:=od,data:=.seq its nl,slots:=os }:=zH0 _ hol
    have k1:=PySem.F.sub_list_set
    have k2:=PySem.F.sub_list_frozenset
    have k3:(Value.type "list" == Value.type "dict")=false:=by decide
    have l1:(s.heap.push (bL b)).IsList l its:=⟨_,ho1,rfl,nl,rfl⟩
    have lS:l < s.heap.objs.size:=Heap.lt_size hol
    unfold Builtin.«set.__init__» noKeywords Builtin.Frozenset.updateFrom
    generalize eI:pyIter=PI
    wp_walk
    subst eI
    refine wpAny_pyIter_list l1 ?_
    refine zB0 (wpAny_runValue ?_)
    have zp:(s.heap.push (bL b)).objs.size=s.heap.objs.size+1:=Heap.size_push _ _
    have d1:l≠(s.heap.push (bL b)).objs.size:=by rw [zp];exact Nat.ne_of_lt (Nat.lt_succ_of_lt lS)
    have d2:s.heap.objs.size∉[(s.heap.push (bL b)).objs.size,l]:=by
     rw [zp]
     intro z
     rcases List.mem_cons.mp z with z | z
     ·exact Nat.ne_of_lt (Nat.lt_succ_self _) z
     ·exact Nat.ne_of_gt lS (List.mem_singleton.mp z)
    have W:=(Walks.list (prog:=prog) (w:=w) (A:=A.in1.in1.in1) (by simp [hh]) _ l d1 its).toS
    rw [hlen]at W
    have zlt:∀z∈zs,z.2 < s.heap.objs.size:=λz hz=>by
     obtain⟨o,_,_,ho,_⟩:=hk z hz
     exact Heap.lt_size ho
    refine rT (led:=b) W s.heap.objs.size d2 (λi v hv=>?_) hb (by simp only [Around.in1];omega) (λz hz=>⟨Nat.ne_of_lt (zlt z hz),λy=>?_⟩) (zs.length - 0) 0 _ ‹1› (Nat.zero_le _) ⟨⟨_,Heap.get?_push_size _ rfl,rfl,rfl⟩,l1.push _⟩ ?ks ?s0 ?fin
    ·have hv:its.toList[i]?=some v:=by rw [Array.getElem?_toList];exact hv
     rw [hs,List.getElem?_map]at hv
     obtain⟨z,e1,e2⟩:=Option.map_eq_some_iff.mp hv
     exact⟨z,e1,e2.symm⟩
    ·have e:=List.mem_singleton.mp y
     rw [zp]at e
     have:=zlt z hz
     rw [e]at this
     exact absurd this (Nat.not_lt.mpr (Nat.le_succ _))
    case ks=>
     intro z hz
     obtain⟨o,i2,n2,ho,r⟩:=hk z hz
     exact⟨o,i2,n2,zH0 _ (zH0 _ ho),r⟩
    case s0=>rw [<- eb];exact B5 prog _ (zH0 _ (by rw [eb];exact hS))
    case fin=>
     intro s' mv x
     obtain⟨h',g',d',tk',os'⟩:=s'
     obtain rfl:g'=s.gens:=mv.gens
     obtain rfl:d'=s.drawn:=mv.drawn
     obtain rfl:os'=s.os:=mv.os
     refine zP0 ?_
     show wpAny _ _ (ret Value.none) _ _ _
     refine zP0 ⟨rfl,h',tk',rfl,x,λa o ha e=>mv.heap a o (λz=>?_) (zH0 _ (zH0 _ e))⟩
     rcases List.mem_cons.mp z with z | z
     ·exact Nat.ne_of_lt ha z
     ·rw [zp]at z
      exact Nat.ne_of_lt (Nat.lt_succ_of_lt ha) (List.mem_singleton.mp z)
   ·cases r2 with
    | error e=>exact hr2
    | ok f2=>
     cases f2 with
     | ret r=>
      obtain⟨rfl,h',tk,rfl,x,kp⟩:=hr2
      repeat (any_goals (first | assumption | wp_step))
      exact q _ _ x kp
     | _=>exact hr2.elim
  | _=>exact hr.elim
end
theorem be:Slot "set_iterator" "__next__" "set_iterator.__next__":=
 .of (owner:="set_iterator") (n:="__next__") (by rw [typeLookup_type,builtinLookup_eq_fast];kernel_rfl) ‹0› ‹0› ‹0›
  (by first | exact .inl ‹0› | exact .inr ‹0›) (by rw [isSubtype_type];kernel_rfl)
theorem cZ:entryFor table "set_iterator.__next__" = some Builtin.«set_iterator.__next__»:=entryFor_of_tree (by kernel_rfl)
theorem nM:Manifest.owners.lookup (String.ofList ['r','o','t','a','r','e','t','i','_','t','e','s'].reverse)=some Manifest.sig_set_iterator:=by kernel_rfl
theorem dm (a:Value):argsOk "set_iterator.__next__" ⟨[a],[]⟩:=by
 unfold argsOk;rw [signature?_of (id:="set_iterator.__next__") (n:=['_','_','t','x','e','n','_','_']) (o:=['r','o','t','a','r','e','t','i','_','t','e','s']) (by kernel_rfl) nM];kernel_rfl
theorem gE:Slot "set_iterator" "__iter__" "set_iterator.__iter__":=
 .of (owner:="set_iterator") (n:="__iter__") (by rw [typeLookup_type,builtinLookup_eq_fast];kernel_rfl) ‹0› ‹0› ‹0›
  (by first | exact .inl ‹0› | exact .inr ‹0›) (by rw [isSubtype_type];kernel_rfl)
theorem kx:entryFor table "set_iterator.__iter__" = some Builtin.«dict_keyiterator.__iter__»:=entryFor_alias (id':="dict_keyiterator.__iter__") (by kernel_rfl) ‹0› ‹0› (by kernel_rfl)
theorem mT (a:Value):argsOk "set_iterator.__iter__" ⟨[a],[]⟩:=by
 unfold argsOk;rw [signature?_of (id:="set_iterator.__iter__") (n:=['_','_','r','e','t','i','_','_']) (o:=['r','o','t','a','r','e','t','i','_','t','e','s']) (by kernel_rfl) nM];kernel_rfl
theorem entry_set_iter:entryFor table "set.__iter__" = some Builtin.«frozenset.__iter__»:=entryFor_alias (id':="frozenset.__iter__") (by kernel_rfl) ‹0› ‹0› (by kernel_rfl)
def eY (h:Heap) (it a:Addr) (first:Value) (i n ep:Nat):Prop:=∃o,h.get? it=some o/\o.cls=.type "set_iterator"/\o.data=.fields #[first,.int i 0,.ref a,.int n 0,.int ep 0]
theorem eY.typeIs {s:Shared}{it a:Addr}{first:Value}{i n ep:Nat} (x:eY s.heap it a first i n ep):s.TypeIs (.ref it) "set_iterator":=let ⟨o,ho,hc,_⟩:=x;⟨o,ho,hc⟩
theorem eY.at_ {h h':Heap}{it a:Addr}{first:Value}{i n ep:Nat} (x:eY h it a first i n ep) (e:∀o,h.get? it=some o->h'.get? it=some o):eY h' it a first i n ep:=let ⟨o,ho,r⟩:=x;⟨o,e _ ho,r⟩
def hG (h:Heap) (a:Addr) (es:Array (Int × Value)) (ep:Nat) (t:SetTable):Prop:=∃o,h.get? a=some o/\o.data=.set es ep t/\t.fits es.size=true
section
variable {prog:Program}{w:World}{A:Around}{E:Value->Shared->Prop}{s:Shared}{it a tp:Addr}{i n ep slot nxt:Nat}{es:Array (Int × Value)}{t:SetTable}{x:Value}{Q:Option Value->Shared->Prop}
theorem yL {first:Value}{h1:Heap}{R:Value->Shared->Prop}{α:Type}{Q:α->Shared->Prop} (hh:A.handled=none) (hR:∀h' e,(∀b o,h1.get? b=some o->h'.get? b=some o)->Shared.TypeIs { s with heap:=h' } e "StopIteration"->R e { s with heap:=h' }) :
  wpAny (model prog w) A (newExc (.type "StopIteration") [] >>= raiseNew (α:=α)) Q R { s with heap:=h1 }:=by
 refine zB0 ?_
 simp only [newExc,newTuple]
 refine zB0 (wpAny_newObj_type ?_ (by size_fits))
 refine zB0 (m:=firstArgMember _ _) (wpAny_of_eq (a:=Value.none) (by first | rfl | (simp only [firstArgMember];rfl)) ?_)
 refine wpAny_newObj_type ?_ (by size_fits)
 simp only [raiseNew]
 refine zB0 (wpAny_handled ?_)
 rw [hh]
 refine zB0 (zP0 (wpAny_throw ?_))
 exact hR _ _ (λb o e=>zH0 _ (zH0 _ e)) ⟨_,Heap.get?_push_size _ rfl,rfl⟩
theorem ze (hit:eY s.heap it a (.int slot 0) i n ep) (hs:hG s.heap a es ep t) (hn:es.size=n) (nx:∀(A:Around) (E:Value->Shared->Prop) (Q:Option (Value × Nat)->Shared->Prop),Q (some (x,nxt)) s->wpAny (model prog w) A (setNext a slot i ep) Q E s)
  (hQ:∀h',eY h' it a (.int nxt 0) (i+1) n ep->Heap.SameBut it s.heap h'->Q (some x) { s with heap:=h' }):wpAny (model prog w) A (pyNext (.ref it)) Q E s:=by
 obtain⟨o,ho,hc,hd⟩:=id hit
 obtain⟨os,hos,hds,hf⟩:=hs
 unfold pyNext
 refine zB0 (wpAny_attempt (wpAny_callSpecial?_slot (name:=‹"__next__"›) hit.typeIs be
  (wpAny_call_entry be hit.typeIs cZ ?_ (dm _))))
 unfold Builtin.«set_iterator.__next__»
 refine zB0 (zP0 ?_)
 refine zB0 (wpAny_fieldsOf ho hd ?_)
 dsimp only
 refine zB0 (wpAny_setEntries_of hos hds hf ?_)
 rw [if_neg (by rw [hn];simp)]
 refine zB0 (nx _ _ _ ?_)
 dsimp only
 refine zB0 (wpAny_setField ho hd (by simp) ?_)
 have g1:=Heap.get?_update_self (Obj.mapFields λx=>x.setIfInBounds 0 (rawInt (nxt:Int))) ho (Obj.isFreed_of_fields (Obj.data_mapFields hd _))
 have d1:=Obj.data_mapFields hd (λx=>x.setIfInBounds 0 (rawInt (nxt:Int)))
 refine zB0 (wpAny_setField g1 d1 (by simp) (zP0 ⟨x,rfl,zP0 (hQ _ ?_ ((Heap.SameBut.update ..).trans (Heap.SameBut.update ..)))⟩))
 exact⟨_,Heap.get?_update_self _ g1 (Obj.isFreed_of_fields (Obj.data_mapFields d1 _)),(Obj.cls_mapFields ..).trans ((Obj.cls_mapFields ..).trans hc),by
  rw [Obj.data_mapFields d1];simp [rawInt]⟩
theorem C9 (hh:A.handled=none) (hit:eY s.heap it a (.int slot 0) i n ep) (hs:hG s.heap a es ep t) (hn:es.size=n) (nx:∀(A:Around) (E:Value->Shared->Prop) (Q:Option (Value × Nat)->Shared->Prop),Q none s->wpAny (model prog w) A (setNext a slot i ep) Q E s)
  (hQ:∀h',Heap.ExtBut it s.heap h'->Q none { s with heap:=h' }):wpAny (model prog w) A (pyNext (.ref it)) Q E s:=by
 obtain⟨o,ho,hc,hd⟩:=id hit
 obtain⟨os,hos,hds,hf⟩:=hs
 unfold pyNext
 refine zB0 (wpAny_attempt (wpAny_callSpecial?_slot (name:=‹"__next__"›) hit.typeIs be
  (wpAny_call_entry be hit.typeIs cZ ?_ (dm _))))
 unfold Builtin.«set_iterator.__next__»
 refine zB0 (zP0 ?_)
 refine zB0 (wpAny_fieldsOf ho hd ?_)
 dsimp only
 refine zB0 (wpAny_setEntries_of hos hds hf ?_)
 rw [if_neg (by rw [hn];simp)]
 refine zB0 (nx _ _ _ ?_)
 dsimp only
 refine zB0 (wpAny_setField ho hd (by simp) ?_)
 refine yL (first:=.none) hh λh' e kp hT=>?_
 refine zB0 (wpAny_isInstance (b:=true) hT isSubtype_stop ?_)
 exact zP0 (hQ _ λb o hb e=>kp b o (by rw [Heap.get?_update_other _ _ (Ne.symm hb)];exact e))
theorem BT {pl:Nat}{vs:Array Value}{hv:Int} (hit:eY s.heap it a (.ref tp) i n ep) (hs:hG s.heap a es ep t) (hn:es.size=n) (htp:∃o c,s.heap.get? tp=some o/\o.data=.seq vs c) (hv1:vs[i]?=some (.int pl 0)) (hx:es[pl]?=some (hv,x))
  (hQ:∀h',eY h' it a (.ref tp) (i+1) n ep->Heap.SameBut it s.heap h'->Q (some x) { s with heap:=h' }):wpAny (model prog w) A (pyNext (.ref it)) Q E s:=by
 obtain⟨o,ho,hc,hd⟩:=id hit
 obtain⟨os,hos,hds,hf⟩:=hs
 obtain⟨ot,ct,hot,hdt⟩:=htp
 unfold pyNext
 refine zB0 (wpAny_attempt (wpAny_callSpecial?_slot (name:=‹"__next__"›) hit.typeIs be
  (wpAny_call_entry be hit.typeIs cZ ?_ (dm _))))
 unfold Builtin.«set_iterator.__next__»
 refine zB0 (zP0 ?_)
 refine zB0 (wpAny_fieldsOf ho hd ?_)
 dsimp only
 refine zB0 (wpAny_setEntries_of hos hds hf ?_)
 rw [if_neg (by rw [hn];simp)]
 refine zB0 (wpAny_seqItems hot hdt ?_)
 dsimp only
 rw [Int.toNat_natCast,hv1]
 dsimp only
 refine zB0 ?_
 unfold setNextDrawn
 refine zB0 (wpAny_setState_of hos hds hf ?_)
 dsimp only
 rw [Int.toNat_natCast,Int.toNat_natCast,if_neg (by simp),hx]
 refine zP0 ?_
 refine zB0 (wpAny_setField ho hd (by simp) (zP0 ⟨x,rfl,zP0 (hQ _ ?_ (Heap.SameBut.update ..))⟩))
 exact⟨_,Heap.get?_update_self _ ho (Obj.isFreed_of_fields (Obj.data_mapFields hd _)),(Obj.cls_mapFields ..).trans hc,by
  rw [Obj.data_mapFields hd];simp [rawInt]⟩
theorem CZ {vs:Array Value} (hh:A.handled=none) (hit:eY s.heap it a (.ref tp) i n ep) (hs:hG s.heap a es ep t) (hn:es.size=n) (htp:∃o c,s.heap.get? tp=some o/\o.data=.seq vs c) (hv1:vs[i]?=none)
  (hQ:∀h',Heap.ExtBut it s.heap h'->Q none { s with heap:=h' }):wpAny (model prog w) A (pyNext (.ref it)) Q E s:=by
 obtain⟨o,ho,hc,hd⟩:=id hit
 obtain⟨os,hos,hds,hf⟩:=hs
 obtain⟨ot,ct,hot,hdt⟩:=htp
 unfold pyNext
 refine zB0 (wpAny_attempt (wpAny_callSpecial?_slot (name:=‹"__next__"›) hit.typeIs be
  (wpAny_call_entry be hit.typeIs cZ ?_ (dm _))))
 unfold Builtin.«set_iterator.__next__»
 refine zB0 (zP0 ?_)
 refine zB0 (wpAny_fieldsOf ho hd ?_)
 dsimp only
 refine zB0 (wpAny_setEntries_of hos hds hf ?_)
 rw [if_neg (by rw [hn];simp)]
 refine zB0 (wpAny_seqItems hot hdt ?_)
 dsimp only
 rw [Int.toNat_natCast,hv1]
 dsimp only
 refine zB0 (wpAny_setField ho hd (by simp) ?_)
 have g1:=Heap.get?_update_self (Obj.mapFields λx=>x.setIfInBounds 0 (rawInt 0)) ho (Obj.isFreed_of_fields (Obj.data_mapFields hd _))
 have d1:=Obj.data_mapFields hd (λx=>x.setIfInBounds 0 (rawInt 0))
 refine zB0 (wpAny_setField g1 d1 (by simp) ?_)
 refine yL (first:=.none) hh λh' e kp hT=>?_
 refine zB0 (wpAny_isInstance (b:=true) hT isSubtype_stop ?_)
 exact zP0 (hQ _ λb o hb e=>kp b o (by rw [Heap.get?_update_other _ _ (Ne.symm hb),Heap.get?_update_other _ _ (Ne.symm hb)];exact e))
end
theorem jV {α:Type}:∀{l:List α}{i:Nat} (h:i < l.length),(l[i]::l.eraseIdx i).Perm l
 | a::l,0,_=>.refl _
 | a::l,i+1,h=>by
  rw [List.getElem_cons_succ,List.eraseIdx_cons_succ]
  exact(List.Perm.swap _ _ _).trans ((jV (Nat.lt_of_succ_lt_succ h)).cons a)
theorem qT {α:Type} (next:Nat->Nat):∀(fuel k:Nat) (left:List α) (out:Array α),left.length=fuel->(pickOrder.go next fuel k left out).toList.Perm (out.toList++left)
 | 0,k,left,out,h=>by
  rw [List.length_eq_zero_iff.mp h,List.append_nil]
  exact .refl _
 | fuel+1,k,left,out,h=>by
  have hlt:next k % left.length < left.length:=Nat.mod_lt _ ‹1›
  unfold pickOrder.go
  rw [List.getElem?_eq_getElem hlt]
  dsimp only
  refine(qT next fuel (k+1) _ _ (by rw [List.length_eraseIdx_of_lt hlt];omega)).trans ?_
  rw [Array.toList_push,List.append_assoc]
  refine List.Perm.append_left _ ?_
  exact jV hlt
theorem il {α:Type} (next:Nat->Nat) (xs:Array α):(pickOrder next xs).toList.Perm xs.toList:=by
 have:=qT next xs.size 0 xs.toList #[] Array.length_toList
 unfold pickOrder
 simpa using this
section
variable {prog:Program}{w:World}{A:Around}{E:Value->Shared->Prop}
theorem yv {src:Source}{n:Nat}{s:Shared}{Q:Nat->Shared->Prop} (hn:n≠0) (h:∀i d,i < n->Q i { s with drawn:=d }):wpAny (model prog w) A (choose src n) Q E s:=by
 intro Γ p _
 unfold choose
 rw [Sem.wp_choose]
 exact⟨hn,h _ _ (Nat.mod_lt _ (Nat.pos_of_ne_zero hn))⟩
theorem zu {α:Type}:∀(n:Nat) (xs:List α) (s:Shared){Q:List α->Shared->Prop},xs.length=n->(∀ys d,ys.Perm xs->Q ys { s with drawn:=d })->wpAny (model prog w) A (drawOrder n xs) Q E s
 | 0,xs,s,Q,hl,h=>by
  unfold drawOrder
  exact zP0 (by have:=h [] s.drawn (by rw [List.length_eq_zero_iff.mp hl]);exact this)
 | n+1,[],s,Q,hl,h=>by cases hl
 | n+1,x::xs,s,Q,hl,h=>by
  unfold drawOrder
  refine zB0 (yv (by simp) λi d hi=>?_)
  rw [List.getElem?_eq_getElem hi]
  dsimp only
  refine zB0 (zu n _ _ (by rw [List.length_eraseIdx_of_lt hi];omega) λys d' hp=>zP0 ?_)
  exact h _ d' ((hp.cons _).trans (jV hi))
end
section
variable {prog:Program}{w:World}{A:Around}{E:Value->Shared->Prop}{s:Shared}{it a:Addr}{n ep:Nat}{es:Array (Int × Value)}{t:SetTable}
theorem hG.at_ {h h':Heap} (x:hG h a es ep t) (e:∀o,h.get? a=some o->h'.get? a=some o):hG h' a es ep t:=let ⟨o,ho,r⟩:=x;⟨o,e _ ho,r⟩
theorem fL {Q:Bool->Shared->Prop} (h:Q (!(eO w)) s):wpAny (model prog w) A setsByText Q E s:=by
 unfold setsByText
 refine zB0 (wpAny_askSetting (zP0 ?_))
 unfold eO at h
 rw [Bool.not_not]at h
 exact h
theorem ug {it a:Addr}{first:Value}{i n ep:Nat}{Q:Value->Shared->Prop} (hit:eY s.heap it a first i n ep) (h:Q (.ref it) s):wpAny (model prog w) A (pyIter (.ref it)) Q E s:=by
 refine wpAny_pyIter_slot hit.typeIs gE (wpAny_call_entry gE hit.typeIs kx ?_ (mT _))
 show wpAny _ _ (ret (.ref it)) _ _ s
 exact zP0 ⟨_,rfl,"set_iterator", _,hit.typeIs,be.lookup,h⟩
def wS (es:Array (Int × Value)) (vs:List Value):Prop:=vs.Perm (es.toList.map (·.2))
theorem Bp (hb:eO w=false) (hne:a≠it):∃vs,wS es vs/\∀A:Around,A.handled=none->Walks prog w A it [it,a] [it] es.size (λi v=>vs[i]?=some v) (λi h=>eY h it a (.int 0 0) i es.size ep/\hG h a es ep t):=by
 refine⟨((pickOrder (w.params.setOrder a ep) es).toList.map λe:Int × Value=>e.2),(il _ es).map _,λA hh=>⟨λb hb=>by simp at hb;simp [hb],λi h h' st k=>⟨st.1.at_ λo e=>k it (by simp) o e,st.2.at_ λo e=>k a (by simp) o e⟩,λi s Q E hi st hQ=>?_,λs Q E st hQ=>?_,λi s Q E st hQ=>ug st.1 hQ⟩⟩
 ·have hz:(pickOrder (w.params.setOrder a ep) es).size=es.size:=by
   have:=(il (w.params.setOrder a ep) es).length_eq
   simpa using this
  have hi':i < (pickOrder (w.params.setOrder a ep) es).size:=by rw [hz];exact hi
  refine ze (slot:=0) (nxt:=0) (x:=((pickOrder (w.params.setOrder a ep) es)[i]).2) st.1 st.2 rfl (λA E Q hq=>?_) λh' i' sb=>?_
  ·obtain⟨o,ho,hd,hf⟩:=st.2
   unfold setNext
   refine zB0 (wpAny_setState_of ho hd hf ?_)
   dsimp only
   refine zB0 (fL ?_)
   rw [hb]
   simp only [Bool.not_false,if_true]
   rw [if_neg (by simp)]
   refine zB0 ?_
   unfold setWalk
   refine zB0 (wpAny_setState_of ho hd hf ?_)
   dsimp only
   refine zB0 (fL ?_)
   rw [hb]
   simp only [Bool.not_false,if_true]
   refine zB0 (wpAny_askSetting (zP0 (zP0 ?_)))
   have e1:(pickOrder (w.params.setOrder a ep) es)[i]?=some ((pickOrder (w.params.setOrder a ep) es)[i]):=Array.getElem?_eq_getElem hi'
   show Q (((pickOrder (w.params.setOrder a ep) es)[i]?).map λe=>(e.2,0)) s
   rw [e1]
   exact hq
  ·refine hQ _ h' s.toks ?_ ⟨i',st.2.at_ λo e=>(sb.2 a hne).trans e⟩ λb o hb e=>(sb.2 b (λq=>hb (by simp [q]))).trans e
   rw [List.getElem?_map,Array.getElem?_toList,Array.getElem?_eq_getElem hi']
   rfl
 ·have hz:(pickOrder (w.params.setOrder a ep) es).size=es.size:=by
   have:=(il (w.params.setOrder a ep) es).length_eq
   simpa using this
  refine C9 (slot:=0) hh st.1 st.2 rfl (λA E Q hq=>?_) λh' eb=>hQ h' s.toks λb o hb e=>eb b o (λq=>hb (by simp [q])) e
  obtain⟨o,ho,hd,hf⟩:=st.2
  unfold setNext
  refine zB0 (wpAny_setState_of ho hd hf ?_)
  dsimp only
  refine zB0 (fL ?_)
  rw [hb]
  simp only [Bool.not_false,if_true]
  rw [if_neg (by simp)]
  refine zB0 ?_
  unfold setWalk
  refine zB0 (wpAny_setState_of ho hd hf ?_)
  dsimp only
  refine zB0 (fL ?_)
  rw [hb]
  simp only [Bool.not_false,if_true]
  refine zB0 (wpAny_askSetting (zP0 (zP0 ?_)))
  have e1:(pickOrder (w.params.setOrder a ep) es)[es.size]?=none:=Array.getElem?_eq_none ‹1›
  show Q (((pickOrder (w.params.setOrder a ep) es)[es.size]?).map λe=>(e.2,0)) s
  rw [e1]
  exact hq
theorem Br {tp:Addr}{is:List Nat} (hne:a≠it) (hnt:tp≠it) (hp:is.Perm (List.range es.size)):∃vs,wS es vs/\∀A:Around,A.handled=none->Walks prog w A it [it,a,tp] [it] es.size (λi v=>vs[i]?=some v) (λi h=>eY h it a (.ref tp) i es.size ep/\hG h a es ep t/\∃o c,h.get? tp=some o/\o.data=.seq ((is.map λ(i:Nat)=>rawInt i).toArray) c):=by
 have hl:is.length=es.size:=by rw [hp.length_eq,List.length_range]
 have all:∀k∈is,∃v,es[k]?=some v:=λk hk=>⟨_,Array.getElem?_eq_getElem (List.mem_range.mp (hp.mem_iff.mp hk))⟩
 have ov:wS es ((is.filterMap (es[·]?)).map (·.2)):=by
  refine List.Perm.map _ ((hp.filterMap _).trans ?_)
  rw [filterMap_getElem?_range]
 refine⟨(is.filterMap (es[·]?)).map (·.2),ov,λA hh=>⟨λb hb=>by simp at hb;simp [hb],λi h h' st k=>⟨st.1.at_ λo e=>k it (by simp) o e,st.2.1.at_ λo e=>k a (by simp) o e,?_⟩,λi s Q E hi st hQ=>?_,λs Q E st hQ=>?_,λi s Q E st hQ=>ug st.1 hQ⟩⟩
 ·obtain⟨o,c,e,r⟩:=st.2.2
  exact⟨o,c,k tp (by simp) o e,r⟩
 ·have hi':i < is.length:=by omega
  have hk:=List.mem_range.mp (hp.mem_iff.mp (List.getElem_mem hi'))
  refine BT (pl:=is[i]) (x:=(es[is[i]]).2) (hv:=(es[is[i]]).1) st.1 st.2.1 rfl st.2.2 (by simp [rawInt,hi']) (Array.getElem?_eq_getElem hk) λh' i' sb=>?_
  refine hQ _ h' s.toks ?_ ⟨i',st.2.1.at_ λo e=>(sb.2 a hne).trans e,?_⟩ λb o hb e=>(sb.2 b (λq=>hb (by simp [q]))).trans e
  ·rw [List.getElem?_map,qk i all,List.getElem?_eq_getElem hi']
   show Option.map _ (es[is[i]]?)=_
   rw [Array.getElem?_eq_getElem hk]
   rfl
  ·obtain⟨o,c,e,r⟩:=st.2.2
   exact⟨o,c,(sb.2 tp hnt).trans e,r⟩
 ·exact CZ hh st.1 st.2.1 rfl st.2.2 (by simp [hl]) λh' eb=>hQ h' s.toks λb o hb e=>eb b o (λq=>hb (by simp [q])) e
noncomputable def fb (t:SetTable):Nat->Nat
 | 0=>0
 | i+1=>(t.place[i]?).getD 0+1
theorem Bq (hb:eO w=true) (hl:t.led=true) (hdr:(!t.plain && decide (es.size > 1))=false) (T:Tb t es.size) (hne:a≠it):∃vs,wS es vs/\∀A:Around,A.handled=none->Walks prog w A it [it,a] [it] es.size (λi v=>vs[i]?=some v) (λi h=>eY h it a (.int (fb t i) 0) i es.size ep/\hG h a es ep t):=by
 have bel:∀i,i<=es.size->SetTable.below t.place (fb t i)=i:=λi hi=>by
  have c:=dz T.ris (fb t i)
  have hsz:=T.sz
  cases i with
  | zero=>
   rcases Nat.eq_zero_or_pos (SetTable.below t.place (fb t 0)) with e | e
   ·exact e
   ·exact absurd (c.lo 0 (by have:=c.le;omega) e) (Nat.not_lt_zero _)
  | succ i=>
   have hi2:i < t.place.size:=by omega
   have es':fb t (i+1)=t.place[i]+1:=by show (t.place[i]?).getD 0+1=_;rw [Array.getElem?_eq_getElem hi2];rfl
   rw [es']at c ⊢
   rcases Nat.lt_trichotomy (SetTable.below t.place (t.place[i]+1)) (i+1) with e | e | e
   ·have:=c.hi i hi2 ‹1›
    omega
   ·exact e
   ·have h1:=c.le
    have h2:=c.lo (i+1) ‹1› e
    have h3:=T.ris i (i+1) hi2 ‹1› ‹1›
    omega
 have nx:∀(i:Nat) (s:Shared) (A:Around) (E:Value->Shared->Prop) (Q:Option (Value × Nat)->Shared->Prop),i<=es.size->hG s.heap a es ep t->Q (match es[i]?,t.place[i]? with | some (_,x),some j=>some (x,j+1) | _,_=>none) s->wpAny (model prog w) A (setNext a (fb t i) i ep) Q E s:=λi s A E Q hi hS hq=>by
  obtain⟨o,ho,hd,hf⟩:=hS
  unfold setNext
  refine zB0 (wpAny_setState_of ho hd hf ?_)
  dsimp only
  refine zB0 (fL ?_)
  rw [hb]
  simp only [Bool.not_true,Bool.false_eq_true,if_false]
  k_delta "drawn"
  rw [hdr]
  simp only [Bool.false_eq_true,if_false]
  k_delta "mustBeLedForItsPlaces"
  rw [hl]
  simp only [Bool.not_true,Bool.false_and,Bool.false_eq_true,if_false]
  refine zB0 (zP0 ?_)
  rw [bel i hi]
  exact zP0 hq
 refine⟨es.toList.map λe:Int × Value=>e.2,List.Perm.refl _,λA hh=>⟨λb hb=>by simp at hb;simp [hb],λi h h' st k=>⟨st.1.at_ λo e=>k it (by simp) o e,st.2.at_ λo e=>k a (by simp) o e⟩,λi s Q E hi st hQ=>?_,λs Q E st hQ=>?_,λi s Q E st hQ=>ug st.1 hQ⟩⟩
 ·have hp:i < t.place.size:=by rw [T.sz];exact hi
  refine ze (slot:=fb t i) (nxt:=fb t (i+1)) (x:=(es[i]).2) st.1 st.2 rfl (λA E Q hq=>nx i s A E Q ‹1› st.2 ?_) λh' i' sb=>?_
  ·rw [Array.getElem?_eq_getElem hi,Array.getElem?_eq_getElem hp]
   have:fb t (i+1)=t.place[i]+1:=by show (t.place[i]?).getD 0+1=_;rw [Array.getElem?_eq_getElem hp];rfl
   rw [this]at hq
   exact hq
  ·refine hQ _ h' s.toks ?_ ⟨i',st.2.at_ λo e=>(sb.2 a hne).trans e⟩ λb o hb e=>(sb.2 b (λq=>hb (by simp [q]))).trans e
   rw [List.getElem?_map,Array.getElem?_toList,Array.getElem?_eq_getElem hi]
   rfl
 ·refine C9 (slot:=fb t es.size) hh st.1 st.2 rfl (λA E Q hq=>nx es.size s A E Q (Nat.le_refl _) st.2 ?_) λh' eb=>hQ h' s.toks λb o hb e=>eb b o (λq=>hb (by simp [q])) e
  rw [Array.getElem?_eq_none (Nat.le_refl _)]
  exact hq
theorem BY {led:Bool}{zs:List KZ}{Q:Value->Shared->Prop} (hh:A.handled=none) (S:eB prog w a (eO w) zs s.heap)
  (hQ:∀(it:Addr) (h':Heap) (d:_) (fp:List Addr) (St:Nat->Heap->Prop) (vs:List Value),(∀b o,s.heap.get? b=some o->h'.get? b=some o)->(∀B:Around,B.handled=none->Walks prog w B it fp [it] vs.length (λi v=>vs[i]?=some v) St)->St 0 h'->(∀b∈fp,s.heap.get? b=none\/b=a)->s.heap.objs.size<=it->vs.Perm (zs.map λz=>Value.ref z.2)->Q (.ref it) { s with heap:=h',drawn:=d }) :
  wpAny (model prog w) A (pyIter (.ref a)) Q E s:=by
 obtain⟨o,es,ep,t,ho,hx,hd,D⟩:=S
 have hT:s.TypeIs (.ref a) "set":=⟨o,ho,hx.1⟩
 have hlt:=Heap.lt_size ho
 have pv:(es.toList.map (·.2)).Perm (zs.map λz=>Value.ref z.2):=by
  have:=D.pm.map (·.2)
  rw [List.map_map]at this
  exact this
 have vl:∀vs,wS es vs->vs.length=es.size:=λvs h=>by rw [List.Perm.length_eq h,List.length_map,Array.length_toList]
 refine wpAny_pyIter_slot hT F.slot_set_iter (wpAny_call_entry F.slot_set_iter hT entry_set_iter ?_ (F.args_set_iter_1 _))
 unfold Builtin.«frozenset.__iter__»
 refine zB0 (m:=Builtin.Frozenset.slot0 "__iter__" _) (zB0 (zP0 (zP0 ?_)))
 refine zB0 (zB0 (wpAny_setEntries_of ho hd D.fits (zP0 ?_)))
 refine zB0 ?_
 unfold setDrawn
 refine zB0 (wpAny_setState_of ho hd D.fits ?_)
 dsimp only
 refine zB0 (fL (zP0 ?_))
 k_delta "drawn"
 cases hw:eO w with
 | false=>
  simp only [Bool.not_false,Bool.not_true,Bool.false_and,Bool.false_eq_true,if_false]
  refine zB0 (zP0 ?_)
  refine zB0 (wpAny_setEpoch_of ho hd D.fits ?_)
  refine zB0 (wpAny_newObj_type (zP0 ⟨_,rfl,"set_iterator", _,⟨_,Heap.get?_push_size _ rfl,rfl⟩,be.lookup,?_⟩))
  obtain⟨vs,hv,W⟩:=Bp (prog:=prog) (es:=es) (ep:=ep) (t:=t) hw (Nat.ne_of_lt hlt)
  refine hQ s.heap.objs.size _ s.drawn [s.heap.objs.size,a] (λi h=>eY h s.heap.objs.size a (.int 0 0) i es.size ep/\hG h a es ep t) vs (λb o e=>zH0 _ e) (λB hB=>by rw [vl vs hv];exact W B hB) ⟨⟨_,Heap.get?_push_size _ rfl,rfl,rfl⟩,o,zH0 _ ho,hd,D.fits⟩ (λb hb=>?_) (Nat.le_refl _) (List.Perm.trans hv pv)
  rcases List.mem_cons.mp hb with rfl | hb
  ·exact .inl (Heap.get?_none_of_le (Nat.le_refl _))
  ·exact .inr (List.mem_singleton.mp hb)
 | true=>
  simp only [Bool.not_true,Bool.not_false,Bool.true_and]
  show wpAny _ _ (if (!t.plain && decide (es.size > 1))=true then _ else _) _ _ _
  cases hdr:(!t.plain && decide (es.size > 1)) with
  | false=>
   simp only [Bool.false_eq_true,if_false]
   refine zB0 (zP0 ?_)
   refine zB0 (wpAny_setEpoch_of ho hd D.fits ?_)
   refine zB0 (wpAny_newObj_type (zP0 ⟨_,rfl,"set_iterator", _,⟨_,Heap.get?_push_size _ rfl,rfl⟩,be.lookup,?_⟩))
   obtain⟨vs,hv,W⟩:=Bq (prog:=prog) (es:=es) (ep:=ep) (t:=t) hw (D.ld.trans hw) hdr D.tb.tb (Nat.ne_of_lt hlt)
   refine hQ s.heap.objs.size _ s.drawn [s.heap.objs.size,a] (λi h=>eY h s.heap.objs.size a (.int (fb t i) 0) i es.size ep/\hG h a es ep t) vs (λb o e=>zH0 _ e) (λB hB=>by rw [vl vs hv];exact W B hB) ⟨⟨_,Heap.get?_push_size _ rfl,rfl,rfl⟩,o,zH0 _ ho,hd,D.fits⟩ (λb hb=>?_) (Nat.le_refl _) (List.Perm.trans hv pv)
   rcases List.mem_cons.mp hb with rfl | hb
   ·exact .inl (Heap.get?_none_of_le (Nat.le_refl _))
   ·exact .inr (List.mem_singleton.mp hb)
  | true=>
   simp only [if_true]
   refine zB0 (zu es.size (List.range es.size) s List.length_range λis d hp=>?_)
   have z2:=D.sz.le
   refine zB0 (wpAny_newTuple ?_ (by rw [List.length_map,hp.length_eq,List.length_range,sizeLine_eq];omega))
   refine zB0 (wpAny_setEpoch_of (o:=o) (zH0 _ ho) hd D.fits ?_)
   refine zB0 (wpAny_newObj_type (zP0 ⟨_,rfl,"set_iterator", _,⟨_,Heap.get?_push_size _ rfl,rfl⟩,be.lookup,?_⟩))
   have zp:(s.heap.push { cls:=.type "tuple", data:=.seq ((is.map λ(i:Nat)=>rawInt i).toArray) }).objs.size=s.heap.objs.size+1:=Heap.size_push _ _
   obtain⟨vs,hv,W⟩:=Br (prog:=prog) (w:=w) (es:=es) (ep:=ep) (t:=t) (it:=s.heap.objs.size+1) (tp:=s.heap.objs.size) (Nat.ne_of_lt (Nat.lt_succ_of_lt hlt)) (Nat.ne_of_lt (Nat.lt_succ_self _)) hp
   show Q (.ref (s.heap.push { cls:=.type "tuple", data:=.seq ((is.map λ(i:Nat)=>rawInt i).toArray) }).objs.size) _
   rw [zp]
   refine hQ (s.heap.objs.size+1) _ d [s.heap.objs.size+1,a,s.heap.objs.size] (λi h=>eY h (s.heap.objs.size+1) a (.ref s.heap.objs.size) i es.size ep/\hG h a es ep t/\∃o c,h.get? s.heap.objs.size=some o/\o.data=.seq ((is.map λ(i:Nat)=>rawInt i).toArray) c) vs (λb o e=>zH0 _ (zH0 _ e)) (λB hB=>by rw [vl vs hv];exact W B hB) ⟨⟨_,by rw [<- zp];exact Heap.get?_push_size _ rfl,rfl,rfl⟩,⟨o,zH0 _ (zH0 _ ho),hd,D.fits⟩,_,_,zH0 _ (Heap.get?_push_size _ rfl),rfl⟩ (λb hb=>?_) (Nat.le_succ _) (List.Perm.trans hv pv)
   rcases List.mem_cons.mp hb with rfl | hb
   ·exact .inl (Heap.get?_none_of_le (Nat.le_succ _))
   ·rcases List.mem_cons.mp hb with rfl | hb
    ·exact .inr rfl
    ·rw [List.mem_singleton.mp hb];exact .inl (Heap.get?_none_of_le (Nat.le_refl _))
end
end L2
namespace L2
open PySem PySem.Spec PyProof.Rows PySem.W
section
variable {prog:Program}{w:World}{A:Around}{E:Value->Shared->Prop}{s:Shared}{a:Addr}{zs:List KZ}
theorem C3 {r:Addr}{Q:Bool->Shared->Prop} (hT:s.TypeIs (.ref r) "set") (h:Q false s):wpAny (model prog w) A (Builtin.List.listLengthHint (.ref r)) Q E s:=by
 unfold Builtin.List.listLengthHint
 refine zB0 (wpAny_specialOf hT PySem.F.slot_set_len.lookup ?_)
 generalize hid:("set.__len__" : String)=id0
 wp_delta
 rw [show splitId id0=some ("set", "__len__") from by subst hid;decide +kernel]
 subst hid
 refine zB0 (wpAny_isInstance (T:="set") (b:=true) hT (by rw [isSubtype_type];kernel_rfl) ?_)
 refine wpAny_ite_split (λhab=>absurd hab (by decide)) (λ_=>?_)
 refine wpAny_ite_split (λ_=>?_) (λhab=>absurd ‹0› hab)
 refine zB0 (wpAny_typeOf hT ?_)
 exact zP0 h
theorem vZ {vs:List Value}{acc:Array Value} (h:ItemsOf (λi v=>vs[i]?=some v) acc vs.length):acc.toList=vs:=by
 refine List.ext_getElem? λi=>?_
 rw [Array.getElem?_toList]
 cases e:acc[i]? with
 | some v=>exact(h.2 i v e).symm
 | none=>
  have:=Array.getElem?_eq_none_iff.mp e
  rw [h.1]at this
  exact(List.getElem?_eq_none this).symm
theorem wJ {R:List Value->Shared->Prop} (hh:A.handled=none) (S:eB prog w a (eO w) zs s.heap) (hn:zs.length<=sizeLine)
  (h:∀(h':Heap) (tk:Nat) (d:_) (vs:List Value),(∀b o,s.heap.get? b=some o->h'.get? b=some o)->vs.Perm (zs.map λz=>Value.ref z.2)->R vs { s with heap:=h',toks:=tk,drawn:=d }) :
  wpAny (model prog w) A (collect (.ref a)) R E s:=by
 have hlt:a < s.heap.objs.size:=by
  obtain⟨o,_,_,_,ho,_⟩:=S
  exact Heap.lt_size ho
 unfold collect
 refine zB0 (wpAny_runValue (codeAny_builtin entry_proto_collect' ?_))
 rw [Around.under_plainId PySem.F.plain_proto_collect _]
 show wpAny _ A.in1 (newList [] >>= λl=>again (.builtin "list.__iadd__" ⟨[l,.ref a],[]⟩)) _ _ s
 refine zB0 (wpAny_newObj_type ?_)
 refine zP0 ⟨plainId_quiet PySem.F.plain_list_iadd _,codeAny_builtin entry_list_iadd' ?_⟩
 rw [Around.under_plainId PySem.F.plain_list_iadd _]
 have hS₁:(s.heap.push { cls:=.type "list", data:=.seq ([]:List Value).toArray }).get? s.heap.objs.size=some { cls:=.type "list", data:=.seq #[] }:=Heap.get?_push_size _ rfl
 show wpAny _ A.in1 (Builtin.List.listExtendWith (.ref s.heap.objs.size) (.ref a) (.ref s.heap.objs.size)) _ _ _
 have S1:eB prog w a (eO w) zs (s.heap.push { cls:=.type "list", data:=.seq ([]:List Value).toArray }):=S.at_ λo e=>zH0 _ e
 have hT:Shared.TypeIs { s with heap:=s.heap.push { cls:=.type "list", data:=.seq ([]:List Value).toArray } } (.ref a) "set":=by
  obtain⟨o,_,_,_,ho,hx,_⟩:=S1
  exact⟨o,ho,hx.1⟩
 unfold Builtin.List.listExtendWith
 refine zB0 (wpAny_typeOf (T:="set") hT ?_)
 have h1:Builtin.List.listSameRef (.ref s.heap.objs.size) (.ref a)=false:=by
  have:s.heap.objs.size≠a:=Nat.ne_of_gt hlt
  simp [Builtin.List.listSameRef,this]
 have h2:(Value.type "set" == Value.type "list")=false:=by decide
 have h3:(Value.type "set" == Value.type "tuple")=false:=by decide
 simp only [h1,h2,h3,Bool.or_false,Bool.false_eq_true,if_false]
 refine zB0 (BY (led:=true) (by simpa using hh) S1 λit h' d fp St vs kp W st ff le pv=>?_)
 have hT':Shared.TypeIs { s with heap:=h',drawn:=d } (.ref a) "set":=by
  obtain⟨o,ho,hc⟩:=hT
  exact⟨o,kp _ _ ho,hc⟩
 refine zB0 (wpAny_holding (C3 hT' ?_))
 have hl:vs.length<=sizeLine:=by rw [pv.length_eq,List.length_map];exact hn
 have zp:(s.heap.push { cls:=.type "list", data:=.seq ([]:List Value).toArray }).objs.size=s.heap.objs.size+1:=Heap.size_push _ _
 have hSf:s.heap.objs.size∉fp:=λz=>by
  rcases ff _ z with e | e
  ·rw [hS₁]at e;cases e
  ·exact absurd e (Nat.ne_of_gt hlt)
 have hSi:s.heap.objs.size≠it:=by
  rw [zp]at le
  exact Nat.ne_of_lt le
 have key:∀(h2:Heap) (c₁ tk:Nat),St 0 h2->(∀b o,b≠s.heap.objs.size->h'.get? b=some o->h2.get? b=some o)->
   h2.get? s.heap.objs.size=some { cls:=.type "list", data:=.seq #[] c₁ }->codeAny (model prog w) A (.builtin "list.extend.loop" ⟨[.ref s.heap.objs.size,.ref it,.ref s.heap.objs.size],[]⟩) (λ(q:Result) (s':Shared)=>∃(h':Heap) (tk:Nat) (d:_) (acc':Array Value) (c':Nat),q=.ok (.ret (.ref s.heap.objs.size))/\s'={ s with heap:=h',toks:=tk,drawn:=d }/\
   (∀b o,s.heap.get? b=some o->h'.get? b=some o)/\h'.get? s.heap.objs.size=some { cls:=.type "list", dict:=none,data:=.seq acc' c',slots:=#[] }/\acc'.toList=vs) { s with heap:=h2,toks:=tk,drawn:=d }:=by
  intro h2 c₁ tk hst hk hS2
  refine codeAny_extend_loopS (W A.in1 (by simpa using hh)).toS hl s.heap.objs.size hSf _ vs.length 0 _ #[] c₁ rfl (Nat.zero_le _) hst hS2 (ItemsOf.nil _) λs' acc' c' hm hS' hacc=>?_
  rw [Moved.eq_with hm]
  refine⟨s'.heap,s'.toks,d,acc',c',rfl,rfl,λb o e=>hm.heap b o (λhmem=>?_) (hk b o (Nat.ne_of_lt (Heap.lt_size e)) (kp b o (zH0 _ e))),hS',vZ hacc⟩
  rcases List.mem_cons.mp hmem with e' | hmem
  ·exact absurd e' (Nat.ne_of_lt (Heap.lt_size e))
  ·have:=Heap.lt_size e
   rw [List.mem_singleton.mp hmem]at this
   rw [zp]at le
   exact absurd this (Nat.not_lt.mpr (Nat.le_of_succ_le le))
 refine wpAny_ite_split (λ_=>?_) (λhab=>absurd ‹0› hab)
 refine zB0 (wpAny_rule ?_)
 refine zB0 ?_
 show wpAny _ _ (updateSeq s.heap.objs.size (·.push .none) >>= λ_=>updateSeq s.heap.objs.size (·.pop)) _ _ _
 have hS2:=kp _ _ hS₁
 refine zB0 (wpAny_updateSeq hS2 rfl ?_)
 have hS₂:=Heap.get?_update_self (Obj.mapSeq (·.push Value.none)) hS2 rfl
 refine wpAny_updateSeq (hz:=by seq_fits) hS₂ rfl ?_
 have hS₃:=Heap.get?_update_self (Obj.mapSeq (·.pop)) hS₂ rfl
 refine zP0 ⟨plainId_quiet PySem.F.plain_extend_loop _,codeAny_mono (key _ _ _ ?_ (λb o hb e=>?_) hS₃) λq s₂ y=>?_⟩
 ·refine(W A hh).frame 0 _ _ st λb hb o e=>?_
  have hbS:b≠s.heap.objs.size:=λz=>hSf (z ▸ hb)
  exact(Heap.get?_update_other _ _ (Ne.symm hbS)).trans ((Heap.get?_update_other _ _ (Ne.symm hbS)).trans e)
 ·exact(Heap.get?_update_other _ _ (Ne.symm hb)).trans ((Heap.get?_update_other _ _ (Ne.symm hb)).trans e)
 ·obtain⟨h',tk,d,acc',c',rfl,rfl,hk,hS',hacc⟩:=y
  show wpAny _ A (load s.heap.objs.size >>= _) _ _ _
  refine zB0 (wpAny_load hS' ?_)
  refine zP0 ?_
  rw [hacc]
  exact h h' tk d vs hk pv
end
end L2
namespace L2
open PySem PySem.Spec PyProof.Rows PySem.W
noncomputable def ltK (x y:Str × Int):Bool:=if x.1=y.1 then decide (x.2 < y.2) else decide (x.1.cps.toList < y.1.cps.toList)
theorem wz {x y:Str} (h:x.cps.toList=y.cps.toList):x=y:=by
 cases x;cases y
 simp only [Str.mk.injEq]
 exact Array.toList_inj.mp h
theorem qY (x:Str × Int):ltK x x=false:=by unfold ltK;rw [if_pos rfl];exact decide_eq_false (Int.lt_irrefl _)
theorem kZ {x y z:Str × Int} (h1:ltK x y=true) (h2:ltK y z=true):ltK x z=true:=by
 unfold ltK at *
 by_cases a:x.1=y.1
 ·rw [if_pos a]at h1
  by_cases b:y.1=z.1
  ·rw [if_pos b]at h2
   rw [if_pos (a.trans b)]
   simp only [decide_eq_true_eq]at *
   omega
  ·rw [if_neg b]at h2
   rw [if_neg (by rw [a];exact b),a]
   exact h2
 ·rw [if_neg a]at h1
  by_cases b:y.1=z.1
  ·rw [if_neg (by rw [<- b];exact a),<- b]
   exact h1
  ·rw [if_neg b]at h2
   simp only [decide_eq_true_eq]at *
   have h3:=List.lt_trans h1 h2
   rw [if_neg (λe=>by rw [e]at h3;exact List.lt_irrefl _ h3)]
   exact decide_eq_true h3
theorem lb {x y:Str × Int} (h1:ltK x y=false) (h2:ltK y x=false):x=y:=by
 unfold ltK at *
 by_cases a:x.1=y.1
 ·rw [if_pos a]at h1
  rw [if_pos a.symm]at h2
  simp only [decide_eq_false_iff_not]at *
  exact Prod.ext a ‹1›
 ·rw [if_neg a]at h1
  rw [if_neg (λe=>a e.symm)]at h2
  simp only [decide_eq_false_iff_not]at *
  exact absurd (wz (List.le_antisymm (List.not_lt.mp h2) (List.not_lt.mp h1))) a
noncomputable def kU (L:List (Str × Int)) (x:Str × Int):Int:=(L.countP λy=>ltK y x:Nat)
theorem ix {α:Type}{p q:α->Bool}:∀{L:List α}{a:α},(∀x∈L,p x=true->q x=true)->a∈L->p a=false->q a=true->L.countP p < L.countP q
 | b::L,a,h,ha,hp,hq=>by
  rw [List.countP_cons,List.countP_cons]
  have le:L.countP p<=L.countP q:=List.countP_mono_left λx hx=>h x (List.mem_cons_of_mem _ hx)
  rcases List.mem_cons.mp ha with e | ha
  ·rw [<- e,hp,hq,if_neg (by decide),if_pos rfl]
   omega
  ·have ih:=ix (λx hx=>h x (List.mem_cons_of_mem _ hx)) ha hp hq
   cases hb:p b with
   | true=>rw [h b List.mem_cons_self hb,if_pos rfl];omega
   | false=>rw [if_neg (by decide)];split <;> omega
theorem nG {L:List (Str × Int)}{x y:Str × Int} (hx:x∈L) (hy:y∈L):decide (kU L x < kU L y)=ltK x y:=by
 unfold kU
 cases h:ltK x y with
 | true=>
  have:=ix (L:=L) (p:=λz=>ltK z x) (q:=λz=>ltK z y) (a:=x) (λz _ hz=>kZ hz h) hx (qY x) h
  exact decide_eq_true ‹1›
 | false=>
  refine decide_eq_false λhlt=>?_
  by_cases e:y=x
  ·rw [e]at hlt;omega
  ·have h2:ltK y x=true:=by
    cases q:ltK y x with
    | true=>rfl
    | false=>exact absurd (lb q h) e
   have:=ix (L:=L) (p:=λz=>ltK z y) (q:=λz=>ltK z x) (a:=y) (λz _ hz=>kZ hz h2) hy (qY y) h2
   omega
def cg (h:Heap) (v:Value) (x:Str × Int):Prop:=∃b o c t u,v=.ref b/\h.get? b=some o/\o.cls=.type "tuple"/\o.data=.seq #[.str x.1 t,.int x.2 u] c
theorem cg.inj {h:Heap}{v:Value}{x y:Str × Int} (a:cg h v x) (b:cg h v y):x=y:=by
 obtain⟨b1,o1,c1,t1,u1,rfl,e1,_,d1⟩:=a
 obtain⟨b2,o2,c2,t2,u2,e,e2,_,d2⟩:=b
 cases e
 rw [e1]at e2
 cases e2
 rw [d1]at d2
 injection d2 with d2 _
 have:=congrArg Array.toList d2
 simp only [List.cons.injEq,Value.str.injEq,Value.int.injEq,and_true]at this
 exact Prod.ext this.1.1 this.2.1
theorem cg.at_ {h h':Heap}{v:Value}{x:Str × Int} (a:cg h v x) (k:∀b o,v=.ref b->h.get? b=some o->o.cls=.type "tuple"->h'.get? b=some o):cg h' v x:=by
 obtain⟨b1,o1,c1,t1,u1,e,e1,q,d1⟩:=a
 exact⟨b1,o1,c1,t1,u1,e,k b1 o1 e e1 q,q,d1⟩
open Classical in
noncomputable def ku (h:Heap) (v:Value):Str × Int:=if e:∃x,cg h v x then Classical.choose e else (⟨#[]⟩,0)
theorem eK {h:Heap}{v:Value}{x:Str × Int} (a:cg h v x):ku h v=x:=by
 unfold ku
 rw [dif_pos ⟨x,a⟩]
 exact(Classical.choose_spec (⟨x,a⟩:∃x,cg h v x)).inj a
section
variable {prog:Program}{w:World}{A:Around}{E:Value->Shared->Prop}{s:Shared}
theorem AK {u v:Value}{x y:Str × Int}{R:Bool->Shared->Prop} (hu:cg s.heap u x) (hv:cg s.heap v y) (h:R (ltK x y) s):wpAny (model prog w) A (keyLt' (tuples' true) u v) R E s:=by
 obtain⟨b1,o1,c1,t1,u1,rfl,e1,_,d1⟩:=hu
 obtain⟨b2,o2,c2,t2,u2,rfl,e2,_,d2⟩:=hv
 refine kat_lt e1 d1 e2 d2 ?_
 show KatLex prog w A true false R [(.str x.1 t1,.str y.1 t2),(.int x.2 u1,.int y.2 u2)] 0 s
 refine kat_cons ((aJ prog w).eqBool (a:=.inr x.1) (b:=.inr y.1) (by simp [aJ,fS,Value.isStrOf,Value.isInt]) (by simp [aJ,fS,Value.isStrOf,Value.isInt]) ?_)
 unfold ltK at h
 by_cases q:x.1=y.1
 ·rw [show decide ((Sum.inr x.1:Key)=Sum.inr y.1)=true from decide_eq_true (by rw [q])]
  rw [if_pos q]at h
  refine kat_yes ?_
  refine kat_cons ((aJ prog w).eqBool (a:=.inl x.2) (b:=.inl y.2) (by simp [aJ,fS,Value.isStrOf,Value.isInt]) (by simp [aJ,fS,Value.isStrOf,Value.isInt]) ?_)
  by_cases q2:x.2=y.2
  ·rw [show decide ((Sum.inl x.2:Key)=Sum.inl y.2)=true from decide_eq_true (by rw [q2])]
   refine kat_yes (kat_nil ?_)
   rw [q2,decide_eq_false (Int.lt_irrefl _)]at h
   exact h
  ·rw [show decide ((Sum.inl x.2:Key)=Sum.inl y.2)=false from decide_eq_false (λz=>q2 (Sum.inl.inj z))]
   refine kat_no ?_
   refine kat_one _ _ ?_
   exact PyProof.Rows.lt_int h
 ·rw [show decide ((Sum.inr x.1:Key)=Sum.inr y.1)=false from decide_eq_false (λz=>q (Sum.inr.inj z))]
  rw [if_neg q]at h
  refine kat_no ?_
  exact oneLt_str h
noncomputable def Bt (prog:Program) (w:World) (A:Around) (s:Shared) (L:List (Str × Int)):RkOk prog w A s where
 rk:=λv=>kU L (ku s.heap v)
 kd:=tuples' true
 ok:=λv=>∃x∈L,cg s.heap v x
 lt:=by
  rintro u v E R ⟨x,hx,tx⟩ ⟨y,hy,ty⟩ h
  rw [eK tx,eK ty,nG hx hy]at h
  exact AK tx ty h
theorem sF {vs:List Value}{Q:SortKind->Shared->Prop} (hv:∀v∈vs,∃x,cg s.heap v x) (hn:0 < vs.length) (h:Q (tuples' true) s):wpAny (model prog w) A (keyKind' vs.toArray) Q E s:=by
 have key:∀vs:List Value,(∀v∈vs,∃x,cg s.heap v x)->∃fs,KatTups s.heap vs fs/\fs.length=vs.length/\∀f∈fs,∃x t,f=Value.str x t:=λvs=>by
  induction vs with
  | nil=>intro _;exact⟨[],trivial,rfl,λf hf=>by cases hf⟩
  | cons v vs ih=>
   intro hv
   obtain⟨fs,k1,k2,k3⟩:=ih λu hu=>hv u (List.mem_cons_of_mem _ hu)
   obtain⟨x,b,o,c,t,u,rfl,e,q,d⟩:=hv v List.mem_cons_self
   exact⟨.str x.1 t::fs,KatTups.cons e q d rfl k1,by simp [k2],λf hf=>by
    rcases List.mem_cons.mp hf with rfl | hf
    ·exact⟨_,_,rfl⟩
    ·exact k3 f hf⟩
 obtain⟨fs,k1,k2,k3⟩:=key vs hv
 refine kat_kind (T:=.type "str") k1 ‹1› (λv hv=>?_) (by decide) ?_
 ·obtain⟨x,t,rfl⟩:=k3 v hv
  exact .now
 ·exact h
theorem rS {a:Addr}{vs:List Value}{n:Nat}{P:PySem.Fin->Shared->Prop} (ho:s.heap.get? a=some (seqObj "list" vs.toArray n)) (hv:∀v∈vs,∃x,cg s.heap v x) (hz:vs.length<=sizeLine)
  (h:∀out:List Value,out.Perm vs->out.Pairwise (λu v=>∀x y,cg s.heap u x->cg s.heap v y->ltK y x=false)->P (.done (.ret .none)) { s with heap:=sortedHeap s.heap a vs out.toArray }) :
  wpAny (model prog w) A (Builtin.«list.sort» ⟨[.ref a],[]⟩) P E s:=by
 rw [list_sort_plain]
 have ha:a < s.heap.objs.size:=Heap.lt_size ho
 have sz:vs.toArray.size=vs.length:=by simp
 refine zB0 (listItems_at ho rfl ?_)
 refine zB0 (listUpdate_at ho rfl ?_ (by rw [sz];exact hz) (Nat.zero_le _))
 obtain⟨e1,ho1⟩:∃e1,(s.heap.update a (Obj.mapSeq λ_=>#[])).get? a=some (seqObj "list" #[] e1):=⟨_,get?_update_seq ho (λ_=>#[])⟩
 refine zB0 (seqEpoch_at ho1 rfl ?_)
 refine zB0 (wpAny_newTuple ?_ (by simpa using hz))
 refine zB0 (wpAny_newList ?_ (Nat.zero_le _))
 refine wpAny_holding ?_
 have ho6:(((s.heap.update a (Obj.mapSeq λ_=>#[])).push (seqObj "tuple" vs.toArray 0)).push (seqObj "list" #[] 0)).get? a=some (seqObj "list" #[] e1):=by
  rw [Heap.get?_push_ne _ _ _ (by rw [size_push',Heap.size_update];exact Nat.ne_of_lt (Nat.lt_succ_of_lt ha)),Heap.get?_push_ne _ _ _ (by rw [Heap.size_update];exact Nat.ne_of_lt ha)]
  exact ho1
 show wpAny (model prog w) A _ P E { s with heap:=((s.heap.update a (Obj.mapSeq λ_=>#[])).push (seqObj "tuple" vs.toArray 0)).push (seqObj "list" #[] 0) }
 dsimp only
 have kp:∀v x,cg s.heap v x->cg (((s.heap.update a (Obj.mapSeq λ_=>#[])).push (seqObj "tuple" vs.toArray 0)).push (seqObj "list" #[] 0)) v x:=λv x t=>t.at_ λb o _ e c=>by
  refine zH0 _ (zH0 _ ?_)
  rw [Heap.get?_update_ne _ _ _ _ (λz=>by rw [z,ho]at e;cases e;exact absurd c (by simp [seqObj]))]
  exact e
 have mapz:∀st':SortSt,(arrOf st').Perm (pairsOf vs)->(((arrOf st').map (·.2)).toList).Perm vs/\∀p∈(arrOf st').toList,p.1=p.2/\p.1∈vs:=λst' hp=>by
  have hl:(arrOf st').toList.Perm (vs.zip vs):=by rw [<- pairsOf_toList];exact Array.perm_iff_toList_perm.mp hp
  refine⟨?_,λp hp'=>mem_zip_self (hl.mem_iff.mp hp')⟩
  rw [Array.toList_map]
  refine(hl.map _).trans ?_
  rw [List.map_snd_zip (Nat.le_refl _)]
 have fin:∀st':SortSt,(arrOf st').Perm (pairsOf vs)->(((arrOf st').map (·.2)).toList).Pairwise (λu v=>∀x y,cg s.heap u x->cg s.heap v y->ltK y x=false)->P (.done (.ret .none)) { s with heap:=sortedHeap s.heap a vs ((arrOf st').map (·.2)) }:=λst' hp hs=>by
  have:=h _ (mapz st' hp).1 hs
  rw [Array.toArray_toList]at this
  exact this
 by_cases h2:vs.toArray.size < 2
 ·rw [if_pos h2,if_pos h2]
  refine zB0 (zP0 ?_)
  rw [StateT.run_pure]
  refine zB0 (zP0 ?_)
  dsimp only
  refine zB0 (seqEpoch_at ho6 rfl ?_)
  refine zB0 (listUpdate_at ho6 rfl ?_ (Nat.zero_le _) (hsz2:=by rw [Array.size_map];show (pairsOf vs).size<=_;rw [pairsOf_size];exact Nat.le_succ_of_le hz))
  simp only [bne_self_eq_false,Bool.false_eq_true,if_false]
  refine zP0 (fin (SortSt.mk' general' (vs.toArray.zip vs.toArray) #[] 7 none) (Array.Perm.refl _) ?_)
  rw [sz]at h2
  have e:((arrOf (SortSt.mk' general' (vs.toArray.zip vs.toArray) #[] 7 none)).map (·.2)).toList.length < 2:=by
   rw [(mapz _ (Array.Perm.refl _)).1.length_eq];exact h2
  revert e
  generalize ((arrOf (SortSt.mk' general' (vs.toArray.zip vs.toArray) #[] 7 none)).map (·.2)).toList=l
  intro e
  match l,e with
  | [],_=>exact .nil
  | [x],_=>exact List.pairwise_singleton _ _
 ·rw [if_neg h2,if_neg h2]
  rw [sz]at h2
  refine zB0 (sF (λv q=>?_) ‹1› ?_)
  ·obtain⟨x,t⟩:=hv v q
   exact⟨x,kp v x t⟩
  let s6:Shared:={ s with heap:=((s.heap.update a (Obj.mapSeq λ_=>#[])).push (seqObj "tuple" vs.toArray 0)).push (seqObj "list" #[] 0) }
  letI:=Bt prog w A s6 (vs.map (ku s.heap))
  have srt:=sZ (prog:=prog) (w:=w) (A:=A) (E:=E) (s:=s6) (a₀:=pairsOf vs) (st:=SortSt.mk' (tuples' true) (vs.toArray.zip vs.toArray) #[] 7 none)
   (Q:=λ_ v=>(arrOf v).Perm (pairsOf vs)/\failedOf v=none/\zC (arrOf v) (pairsOf vs).size) (λp hp=>?_) ⟨Array.Perm.refl _,rfl,rfl,rfl⟩ (by rw [pairsOf_size];omega) λv a1 a2 a3=>⟨a1,a2,a3⟩
  ·refine zB0 (wpAny_mono srt ?_ λ_ _ e=>e)
   rintro⟨⟨⟩,v⟩ s' ⟨rfl,pm,fl,so⟩
   dsimp only
   refine zB0 (seqEpoch_at ho6 rfl ?_)
   refine zB0 (listUpdate_at ho6 rfl ?_ (Nat.zero_le _) (hsz2:=by refine Nat.le_trans (Nat.le_of_eq ((Array.size_map ..).trans (pm.size_eq.trans (pairsOf_size _)))) ?_;exact Nat.le_succ_of_le hz))
   rw [fl]
   simp only [bne_self_eq_false,Bool.false_eq_true,if_false]
   refine zP0 (fin v pm ?_)
   obtain⟨m1,m2⟩:=mapz v pm
   rw [Array.toList_map,List.pairwise_map,List.pairwise_iff_getElem]
   intro i j hi hj hij x y tx ty
   rw [Array.length_toList]at hi hj
   have le:=so i j (Nat.le_of_lt hij) (by rw [<- pm.size_eq];exact hj)
   unfold Kr at le
   rw [getElem?_pos (arrOf v) i hi,getElem?_pos (arrOf v) j hj]at le
   have qi:=m2 (arrOf v)[i] (by simp)
   have qj:=m2 (arrOf v)[j] (by simp)
   rw [Array.getElem_toList]at tx ty
   rw [<- qi.1]at tx
   rw [<- qj.1]at ty
   have le:kU (vs.map (ku s.heap)) (ku s6.heap (arrOf v)[i].1)<=kU (vs.map (ku s.heap)) (ku s6.heap (arrOf v)[j].1):=le
   rw [eK (kp _ _ tx),eK (kp _ _ ty)]at le
   have hx:x∈vs.map (ku s.heap):=List.mem_map.mpr ⟨_,qi.2,eK tx⟩
   have hy:y∈vs.map (ku s.heap):=List.mem_map.mpr ⟨_,qj.2,eK ty⟩
   rw [<- nG hy hx]
   exact decide_eq_false ‹1›
  ·rw [pairsOf_toList]at hp
   obtain⟨x,t⟩:=hv p.1 (mem_zip_self hp).2
   exact⟨x,List.mem_map.mpr ⟨_,(mem_zip_self hp).2,eK t⟩,kp _ _ t⟩
end
end L2
namespace L2
open PySem PySem.Spec PyProof.Rows PySem.W
theorem Inv.draw {X:Cx}{pins:List (Addr × Obj)}{σ:St}{H:Hp}{s:Shared} (I:Inv X pins σ H s) (d:Drawn):Inv X pins σ H { s with drawn:=d }:=⟨I.ok,I.os,I.bare,I.base,I.loc,I.cell,I.free,I.freeC,I.pin,I.hok,I.len⟩
inductive rSetT (P:Program) (w:World) (xs:List V) (H:Hp) (Q:VK):Prop
 | mk (a zs) (h1:xs=[.ref a]) (h2:H a=some (.lst (zs.map λz:KZ=>V.ref z.2))) (h3:∀z∈zs,H z.2=some (.tup (z.1.map kV))) (h4:wU zs) (h5:∀p,H p=none->Q (.ref p) (upd H p (.ext (eB P w p (eO w) (ddZ zs zs.length))))):rSetT P w xs H Q
theorem uS:∀{zs:List KZ}{us:List Value},aM (zs.map λz=>V.ref z.2) us->us=zs.map λz=>Value.ref z.2
 | [],_,r=>by cases r;rfl
 | z::zs,_,r=>by
  cases r with
  | cons h t=>
   rw [uS t,List.map_cons]
   congr 1
theorem sR {X:Cx} (hc:X.calm=true) (hu:X.A.units+8 < cLine):cD X (.type "set") (rSetT X.prog X.w):=by
 intro pins s σ H xs us Q I r h
 obtain⟨a,zs,rfl,hl,hz,hf,q⟩:=h
 obtain⟨u,rfl,ru⟩:=bY r
 cases (show u=Value.ref a from ru)
 obtain⟨its,rv,p,_⟩:=I.list (.inl (.of hl))
 refine kB (I.ok.hd hc) hu p.isList (by simpa using uS rv) (λz hz'=>jK I.hok (hz z hz')) hf λh' tk x kp=>?_
 refine⟨.ref s.heap.objs.size,_,I.laid (o:=.ext (eB X.prog X.w s.heap.objs.size (eO X.w) (ddZ zs zs.length))) (t':=tk) (h':=h') (λb u e=>kp b u (Heap.lt_size e) e) (Nat.le_refl _) (by
  obtain⟨o,_,_,_,e,_⟩:=id x
  exact⟨x,⟨o,e⟩,λh1 h2 e k=>e.at_ k⟩),rfl,q _ (I.hok.fresh (Nat.le_refl _))⟩
noncomputable abbrev RZ:=(Str × Int) × Addr
noncomputable def nF (r:RZ):List V:=[.str r.1.1,.int r.1.2]
noncomputable def dR (r:RZ):KZ:=([.inr r.1.1,.inl r.1.2],r.2)
def iI (rs:List RZ):Prop:=rs.Pairwise λa b=>ltK b.1 a.1=false
theorem Bu {X:Cx}{pins:List (Addr × Obj)}{σ:St}{H:Hp}{s:Shared}{r:RZ} (I:Inv X pins σ H s) (e:H r.2=some (.tup (nF r))):cg s.heap (.ref r.2) r.1:=by
 obtain⟨_,its,rv,o,h1,h2,n,h3⟩:=(show bA X.prog X.w H s.heap r.2 (.tup (nF r)) from I.hok r.2 _ e)
 cases rv with
 | cons q1 rv=>
  cases rv with
  | cons q2 rv=>
   cases rv
   obtain⟨t,rfl⟩:=q1
   obtain⟨u,rfl⟩:=q2
   exact⟨r.2,o,n,t,u,rfl,h1,h2,h3⟩
theorem nJ {α β:Type} (f:α->β):∀{l:List α}{l':List β},l'.Perm (l.map f)->∃m:List α,m.Perm l/\m.map f=l'
 | [],l',h=>⟨[],.refl _,by rw [List.map_nil]at h;rw [List.Perm.eq_nil h];rfl⟩
 | a::l,l',h=>by
  obtain⟨u,v,rfl⟩:=List.append_of_mem (h.mem_iff.mpr List.mem_cons_self)
  have h2:(u++v).Perm (l.map f):=List.Perm.cons_inv (List.perm_middle.symm.trans h)
  obtain⟨m,m1,m2⟩:=nJ f h2
  obtain⟨m3,m4,e,e1,e2⟩:=List.map_eq_append_iff.mp m2
  exact⟨m3++a::m4,List.perm_middle.trans ((show (m3++m4).Perm l by rw [<- e];exact m1).cons a),by rw [List.map_append,List.map_cons,e1,e2]⟩
section
variable {X:Cx}{pins:List (Addr × Obj)}{σ:St}{H:Hp}{s:Shared}{Q:VK}
theorem qL {E:Value->Shared->Prop}{vs:List Value}{rs:List RZ}{A:Around}{W:Value->Shared->Prop} (I:Inv X pins σ H s) (hr:∀r∈rs,H r.2=some (.tup (nF r))) (hv:vs.Perm (rs.map λr=>Value.ref r.2)) (hz:rs.length<=sizeLine)
  (q:∀rs' u s',H s.heap.objs.size=none->rs'.Perm rs->iI rs'->Inv X pins σ (upd H s.heap.objs.size (.lst (rs'.map λr=>V.ref r.2))) s'->W u s') :
  wpAny (model X.prog X.w) A (holding [.ref s.heap.objs.size] (call (.builtin "list.sort") [.ref s.heap.objs.size] [])) W E { s with heap:=s.heap.push (seqObj "list" vs.toArray 0) }:=by
 have hl:vs.length=rs.length:=by rw [hv.length_eq,List.length_map]
 have hoL:(s.heap.push (seqObj "list" vs.toArray 0)).get? s.heap.objs.size=some (seqObj "list" vs.toArray 0):=Heap.get?_push_size _ rfl
 have up:∀r∈rs,cg (s.heap.push (seqObj "list" vs.toArray 0)) (.ref r.2) r.1:=λr hr'=>(Bu I (hr r hr')).at_ λb o _ e _=>zH0 _ e
 refine wpAny_holding (wpAny_call_entry slot_list_sort ⟨_,hoL,rfl⟩ entry_list_sort (rS (s:={ s with heap:=s.heap.push (seqObj "list" vs.toArray 0) }) hoL (λv hv'=>?_) (by rw [hl];exact hz) λout o1 o2=>⟨_,rfl,?_⟩) (args_list_sort _))
 ·obtain⟨r,h1,h2⟩:=List.mem_map.mp (hv.mem_iff.mp hv')
  exact⟨r.1,by rw [<- h2];exact up r h1⟩
 ·obtain⟨rs',p1,p2⟩:=nJ (λr:RZ=>Value.ref r.2) (o1.trans hv)
  have hsrt:iI rs':=by
   subst p2
   rw [List.pairwise_map]at o2
   refine o2.imp_of_mem λ{a b} ha hb z=>?_
   exact z _ _ (up a (p1.mem_iff.mp ha)) (up b (p1.mem_iff.mp hb))
  obtain⟨e0,he0⟩:=sortedHeap_at (out:=out.toArray) hoL
  have old:∀b o,s.heap.get? b=some o->(sortedHeap (s.heap.push (seqObj "list" vs.toArray 0)) s.heap.objs.size vs out.toArray).get? b=some o:=λb o e=>by
   have hlt:=Heap.lt_size e
   rw [sortedHeap_old (Nat.ne_of_lt hlt) (by rw [size_push'];exact Nat.lt_succ_of_lt hlt)]
   exact zH0 _ e
  refine q rs' _ _ (I.hok.fresh (Nat.le_refl _)) p1 hsrt (I.laid (t':=s.toks) old (Nat.le_refl _) (show bA X.prog X.w _ _ _ (.lst (rs'.map λr=>V.ref r.2)) from ⟨?_,out,e0,?_,he0⟩))
  ·rw [List.length_map,p1.length_eq];exact hz
  ·rw [<- p2]
   clear p1 p2 hsrt
   induction rs' with
   | nil=>exact .nil
   | cons r rs' ih=>exact .cons rfl ih
inductive rSortT (xs:List V) (H:Hp) (Q:VK):Prop
 | mk (a) (rs:List RZ) (h1:xs=[.ref a]) (h2:H a=some (.lst (rs.map λr=>V.ref r.2))) (h3:∀r∈rs,H r.2=some (.tup (nF r))) (h5:∀D rs',H D=none->rs'.Perm rs->iI rs'->Q (.ref D) (upd H D (.lst (rs'.map λr=>V.ref r.2)))):rSortT xs H Q
theorem yV:∀{zs:List RZ}{us:List Value},aM (zs.map λz=>V.ref z.2) us->us=zs.map λz=>Value.ref z.2
 | [],_,r=>by cases r;rfl
 | z::zs,_,r=>by
  cases r with
  | cons h t=>
   rw [yV t,List.map_cons]
   congr 1
theorem mO {X:Cx}:cD X (.builtin "sorted") rSortT:=by
 intro pins s σ H xs us Q I r h
 obtain⟨a,rs,rfl,hl,hz,q⟩:=h
 obtain⟨u,rfl,ru⟩:=bY r
 cases (show u=Value.ref a from ru)
 obtain⟨its,rv,p,z⟩:=I.list (.inl (.of hl))
 rw [List.length_map]at z
 have ei:=yV rv
 have hil:its.length=rs.length:=by rw [ei,List.length_map]
 refine Calls.call_function_entry kind_sorted plain_sorted entry_sorted (args_sorted1 _) ?_
 unfold Builtin.«sorted»
 refine zB0 (m:=checkCount "sorted" 1 1 _) (zP0 ?_)
 refine zB0 (collect_list p.isList ?_ ‹1›)
 refine zB0 (wpAny_newList ?_ ‹1›)
 have zz:((s.heap.push (seqObj "list" #[] 0)).update s.heap.objs.size (Obj.mapSeq (·++its.toArray))).objs.size=s.heap.objs.size+1:=by
  rw [Heap.size_update,size_push']
 have I1:Inv X pins σ H { s with heap:=(s.heap.push (seqObj "list" #[] 0)).update s.heap.objs.size (Obj.mapSeq (·++its.toArray)) }:=I.kept (t':=s.toks) λb o e=>by
  rw [Heap.get?_update_ne _ _ _ _ (Nat.ne_of_lt (Heap.lt_size e))]
  exact zH0 _ e
 refine zB0 (qL I1 hz (by rw [ei]) z λrs' u s' n1 p1 s1 I2=>?_)
 exact zP0 ⟨_,rfl,.ref _,_,I2,rfl,q _ rs' n1 p1 s1⟩
inductive rSortS (P:Program) (w:World) (xs:List V) (H:Hp) (Q:VK):Prop
 | mk (a) (rs:List RZ) (h1:xs=[.ref a]) (h2:H a=some (.ext (eB P w a (eO w) (rs.map dR)))) (h3:∀r∈rs,H r.2=some (.tup (nF r))) (h4:rs.length<=sizeLine) (h5:∀D rs',H D=none->rs'.Perm rs->iI rs'->Q (.ref D) (upd H D (.lst (rs'.map λr=>V.ref r.2)))):rSortS P w xs H Q
theorem mP {X:Cx} (hc:X.calm=true):cD X (.builtin "sorted") (rSortS X.prog X.w):=by
 intro pins s σ H xs us Q I r h
 obtain⟨a,rs,rfl,hl,hz,z,q⟩:=h
 obtain⟨u,rfl,ru⟩:=bY r
 cases (show u=Value.ref a from ru)
 have S:=(show bA X.prog X.w H s.heap a _ from I.hok a _ hl).1
 refine Calls.call_function_entry kind_sorted plain_sorted entry_sorted (args_sorted1 _) ?_
 unfold Builtin.«sorted»
 refine zB0 (m:=checkCount "sorted" 1 1 _) (zP0 ?_)
 refine zB0 (wJ (by simpa using I.ok.hd hc) S (by rw [List.length_map];exact z) λh' tk d vs kp pv=>?_)
 rw [List.map_map]at pv
 refine zB0 (wpAny_newList ?_ (by rw [pv.length_eq,List.length_map];exact z))
 have I1:Inv X pins σ H { s with heap:=h',toks:=tk,drawn:=d }:=(I.kept (t':=tk) kp).draw d
 refine zB0 (qL I1 hz pv z λrs' u s' n1 p1 s1 I2=>?_)
 exact zP0 ⟨_,rfl,.ref _,_,I2,rfl,q _ rs' n1 p1 s1⟩
end
end L2
namespace L2
open PySem PySem.Spec PyProof.Rows
noncomputable def bF (c:Addr) (v:V):Heap->Prop:=λh=>∃u,aV v u/\h.IsCell c (some u)
theorem bF.st {c:Addr}{v:V}{h1 h2:Heap} (x:bF c v h1) (k:∀o,h1.get? c=some o->h2.get? c=some o):bF c v h2:=by
 obtain⟨u,r,o,e,d⟩:=x
 exact⟨u,r,o,k o e,d⟩
theorem bF.obj {c:Addr}{v:V}{h:Heap} (x:bF c v h):∃o,h.get? c=some o:=let ⟨_,_,o,e,_⟩:=x;⟨o,e⟩
noncomputable def ko (f:Addr) (name qual:Str) (params:Arguments) (body:List Stmt) (scope:Scope) (cl:List (Str × Addr)) (c:Addr):Heap->Prop:=λh=>∃doc pm ctv,h.get? f=some (PySem.W.fnMade name qual params body scope cl doc pm c ctv)
theorem ko.st {f:Addr}{name qual:Str}{params:Arguments}{body:List Stmt}{scope:Scope}{cl:List (Str × Addr)}{c:Addr}{h1 h2:Heap} (x:ko f name qual params body scope cl c h1) (k:∀o,h1.get? f=some o->h2.get? f=some o):ko f name qual params body scope cl c h2:=by
 obtain⟨d,pm,ctv,e⟩:=x
 exact⟨d,pm,ctv,k _ e⟩
noncomputable def less (cs:List Addr) (H:Hp):Hp:=λb=>if b∈cs then none else H b
noncomputable def back (cs:List Addr) (H H':Hp):Hp:=λb=>if b∈cs then H b else H' b
theorem fJ {cs:List Addr}{H:Hp}{b:Addr} (h:b∈cs):less cs H b=none:=if_pos h
theorem bS {cs:List Addr}{H:Hp}{b:Addr} (h:b∉cs):less cs H b=H b:=if_neg h
theorem mR {cs:List Addr}{H H':Hp}{b:Addr} (h:b∈cs):back cs H H' b=H b:=if_pos h
theorem cC {cs:List Addr}{H H':Hp}{b:Addr} (h:b∉cs):back cs H H' b=H' b:=if_neg h
theorem dw {cs:List Addr}{H:Hp}{b:Addr} (h:H b=none):less cs H b=none:=by
 by_cases z:b∈cs
 ·exact fJ z
 ·rw [bS z];exact h
theorem vU {cs:List Addr}{H:Hp}{b:Addr}{o:HO} (h:less cs H b=some o):b∉cs/\H b=some o:=by
 by_cases z:b∈cs
 ·rw [fJ z]at h;cases h
 ·rw [bS z]at h;exact⟨z,h⟩
structure ClScope (N ps:List Str) (cl:List (Str × Addr)) (sc:Scope):Prop where
 kind:sc.kind=.function
 co:sc.isCoroutine=false
 gen:sc.isGenerator=false
 nd:N.Nodup
 pre:N.take (ps.length+cl.length)=ps++cl.map (·.1)
 len:ps.length+cl.length<=N.length
 par:∀x∈ps,sc.names.lookup x=some .local
 fre:∀x∈cl.map (·.1),sc.names.lookup x=some .free
 nocell:∀x∈sc.names,x.2≠.cell
 all:∀x,sc.names.lookup x=some .free->x∈cl.map (·.1)
 addr:(cl.map (·.2)).Nodup
noncomputable def clX (P:Program) (w:World) (K:PySem.W.Frag) (mg:Str->Option Value) (base:Heap) (N:List Str) (qual:Str) (scope:Scope) (f:Addr) (cd:Value) (cl:List (Str × Addr)) (A:Around) (outer:List Env) (s:Shared) (H:Hp):Cx where
 prog:=P
 w:=w
 K:=K
 mg:=mg
 base:=base
 A:=A.deeper (PySem.W.envX qual scope s.heap.objs.size f cd cl)
 N:=N
 s₀:=s
 H₀:=H
 env:=PySem.W.envX qual scope s.heap.objs.size f cd cl
 outer:=outer
 stack:=PySem.W.envX qual scope s.heap.objs.size f cd cl::outer
 ex:=[]
 calm:=true
 fn:=λ_=>false
 pn:=[]
 xe:=λ_ _=>False
theorem dC {x:Str}{c:Addr}:∀{cl:List (Str × Addr)},cl.lookup x=some c->(x,c)∈cl
 | (y,d)::cl,h=>by
  rw [List.lookup_cons]at h
  by_cases z:x=y
  ·rw [beq_iff_eq.mpr z]at h
   cases h
   rw [z];exact List.mem_cons_self
  ·rw [beq_eq_false_iff_ne.mpr z]at h
   exact List.mem_cons_of_mem _ (dC h)
theorem iF {x:Str}:∀{cl:List (Str × Addr)},x∈cl.map (·.1)->∃c,cl.lookup x=some c
 | (y,d)::cl,h=>by
  rw [List.lookup_cons]
  by_cases z:x=y
  ·rw [beq_iff_eq.mpr z];exact⟨d,rfl⟩
  ·rw [beq_eq_false_iff_ne.mpr z]
   exact iF ((List.mem_cons.mp h).resolve_left z)
theorem gO {x:Str}{c:Addr}:∀{cl:List (Str × Addr)}{i:Nat},(cl.map (·.1)).Nodup->cl[i]?=some (x,c)->cl.lookup x=some c
 | (y,d)::cl,0,_,h=>by
  cases h
  rw [List.lookup_cons,beq_self_eq_true]
 | (y,d)::cl,i+1,nd,h=>by
  have nd:=List.nodup_cons.mp nd
  have hm:(x,c)∈cl:=List.mem_of_getElem? (show cl[i]?=some (x,c) from h)
  rw [List.lookup_cons,beq_eq_false_iff_ne.mpr (λz:x=y=>nd.1 (show y∈cl.map (·.1) from by rw [<- z];exact List.mem_map.mpr ⟨(x,c),hm,rfl⟩))]
  exact gO nd.2 h
theorem oT {x y:Str}{c:Addr}:∀{cl:List (Str × Addr)},(cl.map (·.2)).Nodup->(x,c)∈cl->(y,c)∈cl->x=y
 | (z,d)::cl,nd,h1,h2=>by
  have nd:=List.nodup_cons.mp nd
  rcases List.mem_cons.mp h1 with e1 | k1
  ·rcases List.mem_cons.mp h2 with e2 | k2
   ·cases e1;cases e2;rfl
   ·cases e1;exact absurd (show c∈cl.map (·.2) from List.mem_map.mpr ⟨(y,c),k2,rfl⟩) nd.1
  ·rcases List.mem_cons.mp h2 with e2 | k2
   ·cases e2;exact absurd (show c∈cl.map (·.2) from List.mem_map.mpr ⟨(x,c),k1,rfl⟩) nd.1
   ·exact oT nd.2 k1 k2
theorem jx {x:Str}{v:Value}:∀{ps:List Str}{us:List Value}{i:Nat},ps.Nodup->ps[i]?=some x->us[i]?=some v->(ps.zip us).reverse.lookup x=some v
 | p::ps,u::us,0,nd,h1,h2=>by
  cases h1;cases h2
  rw [List.zip_cons_cons,List.reverse_cons,List.lookup_append]
  have e:(ps.zip us).reverse.lookup x=none:=by
   refine List.lookup_eq_none_iff.mpr λq hq=>?_
   have hm:=List.mem_reverse.mp hq
   exact bne_iff_ne.mpr λz=>(List.nodup_cons.mp nd).1 (by rw [z];exact(List.of_mem_zip (a:=q.1) (b:=q.2) hm).1)
  rw [e]
  show List.lookup x [(x,v)]=some v
  rw [List.lookup_cons,beq_self_eq_true]
 | p::ps,u::us,i+1,nd,h1,h2=>by
  rw [List.zip_cons_cons,List.reverse_cons,List.lookup_append,jx (i:=i) (List.nodup_cons.mp nd).2 h1 h2]
  rfl
 | [],_,_,_,h,_=>by cases h
 | _::_,[],_,_,_,h=>by cases h
section
variable {P:Program}{w:World}{K:W.Frag}{mg:Str->Option Value}{base:Heap}{A:Around}{outer:List Env}{s:Shared}{H:Hp}{cs:List Addr}
theorem wb {h:Heap} (hk:HOk P w H h) (hcs:∀c∈cs,∃φ,H c=some (.ext φ)):HOk P w (less cs H) h:=λa o e=>by
 obtain⟨na,e⟩:=vU e
 refine(hk a o e).stay (λ_ _ _ q=>q) (λb q=>?_) λb xs q=>?_
 ·rw [bS (λz=>by obtain⟨φ,e⟩:=hcs b z;rw [e]at q;cases q)];exact q
 ·rw [bS (λz=>by obtain⟨φ,e⟩:=hcs b z;rw [e]at q;cases q)];exact q
theorem AX {N ps:List Str}{cl:List (Str × Addr)}{qual:Str}{scope:Scope}{f:Addr}{cd:Value}{us:List Value}{vs cvs:List V}{h₁:Heap}{tk:Nat}
  (S:ClScope N ps cl scope) (hd:A.handled=none) (e0:Env0 P w K mg base A outer s H) (hl:vs.length=ps.length) (r:aM vs us) (hcl:Paired (λ(p:Str × Addr) v=>H p.2=some (.ext (bF p.2 v))) cl cvs)
  (hns:h₁.Ns s.heap.objs.size (λx=>(ps.zip us).reverse.lookup x)) (hk:∀b o,s.heap.get? b=some o->h₁.get? b=some o) :
  Inv (clX P w K mg base N qual scope f cd cl A outer s (less (cl.map (·.2)) H)) [] (db N (vs++cvs)) (less (cl.map (·.2)) H) { s with heap:=h₁,toks:=tk }:=by
 have hcs:∀c∈cl.map (·.2),∃v,H c=some (.ext (bF c v)):=by
  have:∀{cl:List (Str × Addr)}{cvs:List V},Paired (λ(p:Str × Addr) v=>H p.2=some (.ext (bF p.2 v))) cl cvs->∀c∈cl.map (·.2),∃v,H c=some (.ext (bF c v)):=by
   intro cl cvs h
   induction h with
   | nil=>intro c hc;cases hc
   | cons a t ih=>
    intro c hc
    rcases List.mem_cons.mp hc with z | hc
    ·rw [z];exact⟨_,a⟩
    ·exact ih c hc
  exact this hcl
 have hcl2:=Paired.length hcl
 have cellAt:∀x c,cl.lookup x=some c->∃v,bF c v h₁:=λx c e=>by
  obtain⟨v,hv⟩:=hcs c (List.mem_map_of_mem (dC e))
  exact⟨v,bF.st (e0.hok c _ hv).1 (λo q=>hk c o q)⟩
 have noA:∀b:Addr,b∉(clX P w K mg base N qual scope f cd cl A outer s (less (cl.map (·.2)) H)).ex:=λb z=>absurd (show b∈([]:List Addr) from z) (by simp)
 have ndN:(ps++cl.map (·.1)).Nodup:=by rw [<- S.pre];exact S.nd.sublist (List.take_sublist _ _)
 refine⟨⟨e0.mod,S.kind,rfl,rfl,Nat.le_refl _,λy z c h1 h2=>oT S.addr (dC h1) (dC h2),λy hy=>?_,λy c h _=>(by cases h),λ_=>hd,Around.frames_deeper e0.frames,.inr ⟨rfl,rfl⟩,λb z=>absurd z (noA b),λb o e=>⟨(e0.bs b o e).1,dw (e0.bs b o e).2⟩,e0.bsz,λb _ _=>noA b,λb z=>absurd z (noA b),e0.funs,λb hb=>dw (e0.frf b hb)⟩,
  rfl,e0.bare,Un.kept hk,⟨_,hns,λi y v h1 h2 h3=>?_⟩,λy c h=>?_,dw (e0.hok.fresh (Nat.le_refl _)),λy c h=>fJ (List.mem_map_of_mem (dC h)),λp hp=>absurd (show p∈([]:List (Addr × Obj)) from hp) (by simp),(wb e0.hok λc hc=>let ⟨v,e⟩:=hcs c hc;⟨_,e⟩).kept hk,?_⟩
 ·have hy:scope.names.lookup y=some .cell\/scope.names.lookup y=some .free:=hy
  rcases hy with hy | hy
  ·exact absurd rfl (S.nocell _ (PySem.mem_of_lookup hy))
  ·exact iF (S.all y hy)
 ·have hi:i < (vs++cvs).length:=by
   unfold db at h2
   by_cases hi:i < (vs++cvs).length
   ·exact hi
   ·rw [List.getElem?_append_right (by simpa using hi)]at h2
    rw [List.getElem?_replicate]at h2
    split at h2 <;> cases h2
  have ha:(vs++cvs)[i]?=some v:=by
   unfold db at h2
   rw [List.getElem?_append_left (by simpa using hi),List.getElem?_map]at h2
   cases e:(vs++cvs)[i]? with
   | none=>rw [e]at h2;cases h2
   | some a=>rw [e]at h2;cases h2;rfl
  rw [List.length_append]at hi
  have hN:(ps++cl.map (·.1))[i]?=some y:=by
   rw [<- S.pre,List.getElem?_take_of_lt ‹1›];exact h1
  by_cases hlt:i < ps.length
  ·rw [List.getElem?_append_left hlt]at hN
   rw [List.getElem?_append_left ‹1›]at ha
   obtain⟨u,hu,rv⟩:=r.get ha
   exact⟨u,rv,.inl ⟨S.par y (List.mem_of_getElem? hN),jx (List.nodup_append.mp ndN).1 hN hu⟩⟩
  ·rw [List.getElem?_append_right ‹1›]at hN ha
   rw [hl]at ha
   rw [List.getElem?_map]at hN
   obtain⟨⟨y',c⟩,hp,e⟩:=Option.map_eq_some_iff.mp hN
   cases (show y'=y from e)
   have getP:∀{α β:Type}{F:α->β->Prop}{xs:List α}{ys:List β}{i:Nat}{x:α}{y:β},Paired F xs ys->xs[i]?=some x->ys[i]?=some y->F x y:=by
    intro α β F xs ys i x y h
    induction h generalizing i with
    | nil=>intro h;cases h
    | cons a t ih=>
     intro h1 h2
     cases i with
     | zero=>cases h1;cases h2;exact a
     | succ i=>exact ih h1 h2
   have hv:=getP hcl hp ha
   obtain⟨u,ru,hc⟩:=bF.st (e0.hok c _ hv).1 (λo q=>hk c o q)
   exact⟨u,ru,.inr ⟨.inr (S.fre y (List.mem_map_of_mem (List.mem_of_getElem? hp))),c,gO (List.nodup_append.mp ndN).2.1 hp,hc⟩⟩
 ·obtain⟨v,u,_,hc⟩:=cellAt y c h
  exact⟨_,hc⟩
 ·unfold db
  show _=N.length
  have:=S.len
  rw [List.length_append,List.length_map,List.length_replicate,List.length_append]
  omega
theorem yw {H':Hp}{s':Shared}{Q:VK}{v:V}{u:Value} (e0:Env0 P w K mg base A outer s H) (hcs:∀c∈cs,∃v,H c=some (.ext (bF c v))) (os:s'.os=s.os) (bare:AllBare s'.gens) (un:Un (frs outer) [] (less cs H) H' s.heap s'.heap) (hok:HOk P w H' s'.heap) (rv:aV v u) (q:Q v (back cs H H')):CE outer P w H s Q u s':=by
 have inC:∀c∈cs,∃o,s.heap.get? c=some o:=λc hc=>by
  obtain⟨v,e⟩:=hcs c hc
  exact(e0.hok c _ e).2.1
 have kC:∀c∈cs,∀o,s.heap.get? c=some o->s'.heap.get? c=some o:=λc hc o e=>un.keep c o e (fJ hc) (λz=>by obtain⟨v,e⟩:=hcs c hc;rw [e0.frf c z]at e;cases e) (by simp)
 have nC:∀c∈cs,H' c=none:=λc hc=>by
  obtain⟨o,e⟩:=inC c hc
  exact un.free c o e (fJ hc) (by simp)
 refine⟨v,back cs H H',os,bare,⟨λb o e n hb hx=>un.keep b o e (dw n) hb hx,λb o e n hb hx=>un.slot b o e (dw n) hb hx,λb o e n hx=>?_,un.there,λb xs e=>?_,λb o x e=>?_,λb ps e=>?_⟩,λa o e=>?_,rv,q⟩
 ·by_cases z:b∈cs
  ·rw [mR z];exact n
  ·rw [cC z];exact un.free b o e (dw n) hx
 ·have z:b∉cs:=λz=>by obtain⟨v,e'⟩:=hcs b z;rw [e']at e;cases e
  rw [cC z];exact un.tups b xs (by rw [bS z];exact e)
 ·have z:b∉cs:=λz=>by obtain⟨v,e'⟩:=hcs b z;rw [e']at e;cases e
  rw [cC z];exact un.frzs b o x (by rw [bS z];exact e)
 ·have z:b∉cs:=λz=>by obtain⟨v,e'⟩:=hcs b z;rw [e']at e;cases e
  obtain⟨m,em⟩:=un.tbls b ps (by rw [bS z];exact e)
  exact⟨m,by rw [cC z];exact em⟩
 ·by_cases z:a∈cs
  ·rw [mR z]at e
   obtain⟨v,ev⟩:=hcs a z
   rw [ev]at e
   cases e
   have x:=(e0.hok a _ ev)
   have x':bF a v s'.heap:=bF.st x.1 (kC a z)
   exact⟨x',x'.obj,λh1 h2 y k=>y.st k⟩
  ·rw [cC z]at e
   refine(hok a o e).stay (λ_ _ _ q=>q) (λb q=>?_) λb xs q=>?_
   ·rw [cC (λz=>by rw [nC b z]at q;cases q)];exact q
   ·rw [cC (λz=>by rw [nC b z]at q;cases q)];exact q
theorem yu {k:Nat}{N ps:List Str}{cl:List (Str × Addr)}{name qual:Str}{params:Arguments}{body:List Stmt}{scope:Scope}{f c':Addr}{us:List Value}{vs cvs:List V}{Q:VK}{E:XK}
  (hr:Room (k+1) A) (e0:Env0 P w K mg base A outer s H) (hf:H f=some (.ext (ko f name qual params body scope cl c'))) (hc:H c'=some (.ext (bG c' qual))) (hcl:Paired (λ(p:Str × Addr) v=>H p.2=some (.ext (bF p.2 v))) cl cvs)
  (S:ClScope N ps cl scope) (r:aM vs us) (hl:vs.length=ps.length) (hbind:∀(s:Shared) (doc pm ctv:Value),BindsTo s (PySem.W.fnX name qual params body scope cl .none .none doc pm none (.ref c') ctv) ⟨us,[]⟩ (ps.zip us))
  (hbody:Room k (A.deeper (PySem.W.envX qual scope s.heap.objs.size f (.ref c') cl))->∃t,PSs (clX P w K mg base N qual scope f (.ref c') cl A outer s (less (cl.map (·.2)) H)) body t/\
   t { nx:=λ_ H'=>(∀c∈cl.map (·.2),H' c=none)->Q .non (back (cl.map (·.2)) H H'),rt:=λv H'=>(∀c∈cl.map (·.2),H' c=none)->Q v (back (cl.map (·.2)) H H') } (db N (vs++cvs)) (less (cl.map (·.2)) H)) :
  codeAny (model P w) A (.call (.ref f) ⟨us,[]⟩) (CR CX0 outer P w H s Q E) s:=by
 obtain⟨doc,pm,ctv,ho⟩:=(e0.hok f _ hf).1
 have hrec:s.heap.CodeRec (.ref c') qual:=(e0.hok c' _ hc).1
 have lim:s.heap.NoLimit:=e0.mod.nolimit.keeps λb o e=>(e0.bs b o e).1
 have hcs:∀c∈cl.map (·.2),∃v,H c=some (.ext (bF c v)):=by
  have:∀{cl:List (Str × Addr)}{cvs:List V},Paired (λ(p:Str × Addr) v=>H p.2=some (.ext (bF p.2 v))) cl cvs->∀c∈cl.map (·.2),∃v,H c=some (.ext (bF c v)):=by
   intro cl cvs h
   induction h with
   | nil=>intro c hc;cases hc
   | cons a t ih=>
    intro c hc
    rcases List.mem_cons.mp hc with z | hc
    ·rw [z];exact⟨_,a⟩
    ·exact ih c hc
  exact this hcl
 refine codeAny_call_def (fd:=PySem.W.fnX name qual params body scope cl .none .none doc pm none (.ref c') ctv) (body:=body) (binds:=ps.zip us) hr.depth ho rfl lim hrec rfl (hbind s doc pm ctv) S.nocell (λx hx=>S.par x.1 (List.of_mem_zip (a:=x.1) (b:=x.2) hx).1) (λh₁ hns hk=>?_) S.co S.gen S.kind
 obtain⟨t,ht,hq⟩:=hbody (hr.deeper _)
 have I:=AX (qual:=qual) (f:=f) (cd:=.ref c') (tk:=s.toks+(ps.zip us).length) S hr.hd e0 hl r hcl hns hk
 refine wpAny_mono (ht [] _ _ _ _ I hq) (λfl s' hs=>?_) λe s' hs=>False.elim hs
 have fin:∀{σ':St}{H':Hp}{v:V}{u:Value},Inv (clX P w K mg base N qual scope f (.ref c') cl A outer s (less (cl.map (·.2)) H)) [] σ' H' s'->aV v u->((∀c∈cl.map (·.2),H' c=none)->Q v (back (cl.map (·.2)) H H'))->CE outer P w H s Q u s':=
  λ{σ' H' v u} J rv q=>yw e0 hcs J.os J.bare J.base J.hok rv (q λc hc=>by
   obtain⟨v,e⟩:=hcs c hc
   obtain⟨o,eo⟩:=(e0.hok c _ e).2.1
   exact J.base.free c o eo (fJ hc) (by simp [clX]))
 cases fl with
 | ret u=>
  obtain⟨v,σ',H',J,rv,q⟩:=hs
  exact fin J rv q
 | next=>
  obtain⟨σ',H',J,q⟩:=hs
  exact fin (v:=V.non) (u:=Value.none) J rfl q
 | brk=>
  obtain⟨_,_,_,q⟩:=hs
  exact False.elim q
 | cont=>
  obtain⟨_,_,_,q⟩:=hs
  exact False.elim q
end
noncomputable def Cr (P:Addr) (pos:Pos) (name q:Str) (params:Arguments) (body:List Stmt) (scope:Scope) (clos:List (Str × Addr)) (i:Nat):TS:=λD σ H=>kG P pos q H/\
 ∀H' f c,Go P pos q H H'->H f=none->H' c=some (.ext (bG c q))->H' f=some (.ext (ko f name q params body scope clos c))->D.nx (σ.set i (some (.ref f))) H'
theorem As {X:Cx}{name q:Str}{params:Arguments}{body:List Stmt}{scope:Scope}{pos:Pos}{clos:List (Str × Addr)}{i:Nat}{c P:Addr} (hN:X.N.Nodup) (hi:X.N[i]?=some name) (hx:Loc X.env.scope name) (hcd:X.env.code=.ref c) (hC:PySem.W.CodeHd X.base c P) (hB:X.base.BuiltinsAt X.mg P)
  (hcl:closureFor scope X.env=pure clos) (hd0:params.defaults=[]:=by rfl) (hk0:params.kw_defaults=[]:=by rfl) (ha:annTrees params none X.env=[]:=by rfl) (hq:qualnameIn X.env name name=q:=by rfl)
  (hf:X.fn name=true\/X.env.scope.names.lookup name=some .local:=by first | exact .inl rfl | exact .inr rfl | assumption):PS X (.FunctionDef name params body [] none [] scope none name pos) (Cr P pos name q params body scope clos i):=by
 intro pins s σ H D I hh
 obtain⟨L,h⟩:=hh
 refine PySem.W.nestDef_K hd0 hk0 ha ?_
 rw [hq]
 have hg:s.heap.Ns mainGlobals X.mg:=I.ok.mod.glob.keeps I.bk
 have hgP:mainGlobals≠P:=λz=>by
  obtain⟨o,es,ep,e,_⟩:=I.ok.mod.glob
  have n:=(I.bs _ _ e).2
  obtain⟨ps,eP⟩:=L.tbl
  rw [z,eP]at n
  cases n
 rcases L with L | ⟨c1,L,Lc⟩
 ·have hP:s.heap.get? P=some (PySem.W.tabObj #[]):=I.hok P _ L
  have hPlt:P < s.heap.objs.size:=Heap.lt_size hP
  refine PySem.W.makeFunction_K hcl I.ok.glob hg hcd (hC.keeps I.bk) hP trivial rfl hgP (hB.keeps I.bk) λc' ctv doc h' tk hx' hge hlt hrec htb=>?_
  have fge:s.heap.objs.size<=h'.objs.size:=Nat.le_trans hge (Nat.le_of_lt hlt)
  have nc:H c'=none:=I.hok.fresh hge
  have nf:H h'.objs.size=none:=I.hok.fresh fge
  have cP:c'≠P:=Nat.ne_of_gt (Nat.lt_of_lt_of_le hPlt hge)
  have fP:h'.objs.size≠P:=Nat.ne_of_gt (Nat.lt_of_lt_of_le hPlt fge)
  have cf:c'≠h'.objs.size:=Nat.ne_of_lt hlt
  have I1:=I.table (h':=h'.push (PySem.W.fnMade name q params body scope clos doc ((X.mg "__name__").getD .none) c' ctv)) (more:=#[rawInt pos.line,rawInt pos.col,.ref c']) (t':=tk) L
   (λb o z q=>zH0 _ (hx' b o z q)) (zH0 _ htb)
  have e0:(#[]:Array Value)++#[rawInt pos.line,rawInt pos.col,.ref c'] = #[rawInt pos.line,rawInt pos.col,.ref c']:=by simp
  rw [e0]at I1
  have rec':bG c' q (h'.push (PySem.W.fnMade name q params body scope clos doc ((X.mg "__name__").getD .none) c' ctv)):=
   bG.st (show bG c' _ h' from hrec) λo q=>zH0 _ q
  have I2:=I1.track (a:=c') (o:=.ext (bG c' q)) (Nat.le_trans I.sz hge) (I.fpOk hge (by rw [ah cP];exact nc)) ⟨rec',rec'.obj,λh1 h2 x k=>x.st k⟩
  have fn':ko h'.objs.size name q params body scope clos c' (h'.push (PySem.W.fnMade name q params body scope clos doc ((X.mg "__name__").getD .none) c' ctv)):=⟨_,_,_,Heap.get?_push_size _ rfl⟩
  have I3:=I2.track (a:=h'.objs.size) (o:=.ext (ko h'.objs.size name q params body scope clos c')) (Nat.le_trans I.sz fge)
   (I.fpOk fge (by rw [ah cf.symm,ah fP];exact nf)) ⟨fn',⟨_,Heap.get?_push_size _ rfl⟩,λh1 h2 x k=>x.st k⟩
  refine gB I3 hN hi hx (v:=.ref h'.objs.size) rfl (λs' I'=>⟨_,_,I',h _ _ c' ⟨λb o z q=>?_,.inr ⟨c',?_,?_⟩⟩ nf ?_ aj⟩) hf
  ·rw [ah (ai q nf),ah (ai q nc),ah z];exact q
  ·rw [ah fP.symm,ah cP.symm,aj]
  ·rw [ah cf,aj]
  ·rw [ah cf,aj]
 ·have hP:s.heap.get? P=some (PySem.W.tabObj #[rawInt pos.line,rawInt pos.col,.ref c1]):=I.hok P _ L
  refine PySem.W.makeFunction_hit (cv:=.ref c1) hcl I.ok.glob hg hcd (hC.keeps I.bk) hP (by simp [TriplesOk,rawInt]) (by simp [codeAmong,rawInt]) (hB.keeps I.bk) λctv doc h' tk hk hsz=>?_
  have nf:H h'.objs.size=none:=I.hok.fresh hsz
  have fn':ko h'.objs.size name q params body scope clos c1 (h'.push { cls:=.type "function", data:=.func (PySem.W.fnX name q params body scope clos .none .none doc ((X.mg "__name__").getD .none) none (.ref c1) ctv) }):=⟨_,_,_,Heap.get?_push_size _ rfl⟩
  have I1:=I.laid (a:=h'.objs.size) (o:=.ext (ko h'.objs.size name q params body scope clos c1)) (t':=tk) (λb u q=>zH0 _ (hk b u q)) hsz ⟨fn',⟨_,Heap.get?_push_size _ rfl⟩,λh1 h2 x k=>x.st k⟩
  refine gB I1 hN hi hx (v:=.ref h'.objs.size) rfl (λs' I'=>⟨_,_,I',h _ _ c1 (Go.new (.inr ⟨c1,L,Lc⟩) nf) nf ?_ aj⟩) hf
  rw [ah (ai Lc nf)];exact Lc
def PSr (X:Cx) (b:List Stmt) (t:(V->St->Hp->Prop)->St->Hp->Prop):Prop:=
 ∀(pins:List (Addr × Obj)) (s:Shared) (σ:St) (H:Hp) (R:V->St->Hp->Prop),Inv X pins σ H s->t R σ H->
  wpAny (model X.prog X.w) X.A (execs b X.env) (λfl s'=>∃u v σ' H',fl=.ret u/\Inv X pins σ' H' s'/\aV v u/\R v σ' H') X.xe s
theorem xI {X:Cx}{e:Expr}{te:TE}{pos:Pos} (h:PE X e te):PSr X [.Return (some e) pos] (λR σ H=>te σ H λv H'=>R v σ H'):=by
 intro pins s σ H R I hh
 refine wpAny_execs_cons ?_
 refine wpAny_Return_some (thn (h pins s σ H _ I hh) λu s1 ⟨v,H1,I1,r,q⟩=>?_)
 exact⟨u,v,σ,H1,rfl,I1,r,q⟩
theorem uY {X:Cx}{st:Stmt}{rest:List Stmt}{t:TS}{u:(V->St->Hp->Prop)->St->Hp->Prop} (h1:PS X st t) (h2:PSr X rest u):PSr X (st::rest) (λR σ H=>t { nx:=u R,rt:=λ_ _=>False } σ H):=by
 intro pins s σ H R I h
 refine wpAny_execs_cons (thn (h1 pins s σ H { nx:=u R,rt:=λ_ _=>False } I h) λf s1 q=>?_)
 cases f with
 | next=>
  obtain⟨σ',H',I',q⟩:=q
  exact h2 pins s1 σ' H' R I' q
 | ret v=>obtain⟨_,_,_,_,_,q⟩:=q;exact False.elim q
 | brk=>obtain⟨_,_,_,q⟩:=q;exact False.elim q
 | cont=>obtain⟨_,_,_,q⟩:=q;exact False.elim q
noncomputable def iH (cs:List (Addr × V)) (H:Hp):Hp:=λb=>match cs.lookup b with
 | some v=>some (.ext (bF b v))
 | none=>H b
theorem cI {cs:List (Addr × V)}{H:Hp}{b:Addr} (h:cs.lookup b=none):iH cs H b=H b:=by unfold iH;rw [h]
theorem kf {cs:List (Addr × V)}{H:Hp}{b:Addr}{v:V} (h:cs.lookup b=some v):iH cs H b=some (.ext (bF b v)):=by unfold iH;rw [h]
def rJ (X:Cx) (σ:St) (cs:List (Addr × V)):Prop:=∀c v,cs.lookup c=some v->∃(i:Nat) (x:Str),X.N[i]?=some x/\σ[i]?=some (some v)/\X.env.scope.names.lookup x=some .cell/\X.env.cells.lookup x=some c
theorem oO {CX:CXT}{P:Program}{w:World}{K:W.Frag}{mg:Str->Option Value}{base:Heap}{N:List Str}{qual:Str}{scope:Scope}{f:Addr}{cd:Value}{A:Around}{outer:List Env}{s s':Shared}{H H':Hp}{E:XK}{σ:St}{cs:List (Addr × V)}{Q:VK}{v:V}{u:Value}
  (J:Inv (jX CX P w K mg base N qual scope f cd A outer s H E) [] σ H' s') (C:rJ (jX CX P w K mg base N qual scope f cd A outer s H E) σ cs) (rv:aV v u) (q:(∀c v,cs.lookup c=some v->H' c=none)->Q v (iH cs H')):CE outer P w H s Q u s':=by
 have at':∀c v,cs.lookup c=some v->bF c v s'.heap/\s.heap.objs.size<=c/\H' c=none:=λc v e=>by
  obtain⟨i,x,h1,h2,h3,h4⟩:=C c v e
  obtain⟨m,hn,hl⟩:=J.loc
  obtain⟨u,ru,lk⟩:=hl i x v h1 h2 (.inr (.inl h3))
  refine⟨?_,J.ok.cab x c rfl h4,J.freeC x c h4⟩
  rcases lk with⟨k,_⟩ | ⟨_,c',e',hc⟩
  ·have k:scope.names.lookup x=some .local:=k
   have h3:scope.names.lookup x=some .cell:=h3
   rw [h3]at k;cases k
  ·rw [h4]at e'
   cases e'
   exact⟨u,ru,hc⟩
 have q:=q λc v e=>(at' c v e).2.2
 have old:∀b o,s.heap.get? b=some o->cs.lookup b=none:=λb o e=>by
  cases z:cs.lookup b with
  | none=>rfl
  | some v=>exact absurd (Nat.lt_of_lt_of_le (Heap.lt_size e) (at' b v z).2.1) (Nat.lt_irrefl _)
 have trk:∀b o,H' b=some o->cs.lookup b=none:=λb o e=>by
  cases z:cs.lookup b with
  | none=>rfl
  | some v=>rw [(at' b v z).2.2]at e;cases e
 have un:=J.base
 refine⟨v,iH cs H',J.os,J.bare,⟨un.keep,un.slot,λb o e n hx=>?_,un.there,λb xs e=>?_,λb o x e=>?_,λb ps e=>?_⟩,λa o e=>?_,rv,q⟩
 ·rw [cI (old b o e)];exact un.free b o e n hx
 ·have r:=un.tups b xs e
  rw [cI (trk _ _ r)];exact r
 ·have r:=un.frzs b o x e
  rw [cI (trk _ _ r)];exact r
 ·obtain⟨m,r⟩:=un.tbls b ps e
  exact⟨m,by rw [cI (trk _ _ r)];exact r⟩
 ·cases z:cs.lookup a with
  | some v=>
   rw [kf z]at e
   cases e
   have x:=(at' a v z).1
   exact⟨x,x.obj,λh1 h2 y k=>y.st k⟩
  | none=>
   rw [cI z]at e
   refine(J.hok a o e).stay (λ_ _ _ q=>q) (λb q=>?_) λb xs q=>?_
   ·rw [cI (trk _ _ q)];exact q
   ·rw [cI (trk _ _ q)];exact q
theorem Fun.okA {P:Program}{w:World}{K:W.Frag}{mg:Str->Option Value}{base:Heap}{x qual:Str}{st:Stmt}{f:Addr}{fd:FuncData}{N ps:List Str}{k:Nat}{sp:Sp} (F:Fun K x qual st f fd) (S:FnScope N ps (aq st)) (len:∀vs H Q E,sp vs H Q E->vs.length=ps.length)
  (hbody:∀(cdv:Value) (A:Around) (outer:List Env) (s:Shared) (H:Hp) (vs:List V) (Q:VK) (E:XK),Room k (A.deeper (envOfC qual (aq st) s.heap.objs.size f cdv))->(∃oc od kV doc pm an ct osl,K.lookup f=some ⟨oc,od,.func (PySem.W.fnOf x qual (dl st) (cE st) (aq st) .none kV doc pm an cdv ct),osl⟩)->sp vs H Q E->
   ∃t,PSr (jX CX0 P w K mg base N qual (aq st) f cdv A outer s H E) (cE st) t/\t (λv σ H'=>∃cs,rJ (jX CX0 P w K mg base N qual (aq st) f cdv A outer s H E) σ cs/\((∀c v,cs.lookup c=some v->H' c=none)->Q v (iH cs H'))) (db N vs) H):FnOk P w K mg base CX0 (k+1) f fd ps sp:=by
 obtain⟨oc,od,kV,doc,pm,an,cdv,ct,osl,rfl,lk,hcd⟩:=F.ex
 refine⟨len,λA outer s H args us vs Q E hr e0 hb r hsp=>?_⟩
 have hl:=len _ _ _ _ hsp
 have KX:K.In s.heap:=e0.mod.kin.keeps λb o e=>(e0.bs b o e).1
 have lim:s.heap.NoLimit:=e0.mod.nolimit.keeps λb o e=>(e0.bs b o e).1
 have hkind:∀y∈ps.zip us,(aq st).names.lookup y.1=some .local\/((aq st).names.lookup y.1=some .cell/\((cellsFrom (s.heap.objs.size+1) (aq st).names []).lookup y.1).isSome=true):=λ⟨n,v⟩ hy=>by
  rcases S.par n (List.of_mem_zip hy).1 with q | q
  ·exact .inl q
  ·exact .inr ⟨q,PySem.W.cellsFrom_some _ _ _ (.inl q)⟩
 refine codeAny_call_function hr.depth (KX _ _ lk) rfl S.co S.gen rfl (PySem.W.codeRec_of KX hcd) (hb _ _ _ _ ?_)
 refine wpAny_newFunctionEnv_cells S.kind hkind λenv he s1 x=>?_
 subst he
 refine⟨lim.keeps x.toInCall.keep,codeAny_func ?_⟩
 obtain⟨t,ht,hq⟩:=hbody cdv A outer s H vs Q E (hr.deeper _) ⟨oc,od,kV,doc,pm,an,ct,osl,lk⟩ hsp
 have I:Inv (jX CX0 P w K mg base N qual (aq st) f cdv A outer s H E) [] (db N vs) H s1:=lq S hr.hd e0 hl r x
 refine wpAny_mono (ht [] s1 (db N vs) H _ I hq) (λfl s' hs=>?_) λe s' hs=>hs
 obtain⟨u,v,σ',H',rfl,J,rv,cs,C,q⟩:=hs
 exact oO J C rv q
def zD (P:Program) (w:World) (K:PySem.W.Frag) (mg:Str->Option Value) (base:Heap) (k:Nat) (f:Addr) (sp:Sp):Prop:=
 ∀(A:Around) (outer:List Env) (s:Shared) (H:Hp) (us:List Value) (vs:List V) (Q:VK) (E:XK),Room k A->Env0 P w K mg base A outer s H->aM vs us->sp vs H Q E->codeAny (model P w) A (.call (.ref f) ⟨us,[]⟩) (CR CX0 outer P w H s Q E) s
def FnH (H:Hp) (f:Addr):Prop:=∃φ,H f=some (.ext φ)/\∀h,φ h->PySem.W.FnAt f h
theorem FnH.of {H:Hp}{f c:Addr}{name qual:Str}{params:Arguments}{body:List Stmt}{scope:Scope}{cl:List (Str × Addr)} (h:H f=some (.ext (ko f name qual params body scope cl c))):FnH H f:=
 ⟨_,h,λh ⟨_,_,_,e⟩=>⟨_,_,_,_,e⟩⟩
inductive tCallV (V:Addr->Sp->Prop) (tv:TE) (t:TA) (σ:St) (H:Hp) (Q:VK):Prop
 | mk (h:tv σ H λx H1=>∃(f:Addr) (sp:Sp),x=.ref f/\V f sp/\FnH H1 f/\t σ H1 λvs H2=>FnH H2 f/\sp vs H2 Q E0):tCallV V tv t σ H Q
theorem nL {X:Cx}{k:Nat}{V:Addr->Sp->Prop}{x:Str}{p pos:Pos}{e:Expr}{es:List Expr}{tv:TE}{t:TA} (hV:∀f sp,V f sp->zD X.prog X.w X.K X.mg X.base k f sp) (hv:PE X (.Name x p) tv) (hr:Room k X.A) (hx:dJ CX0 X E0) (ha:PA X (e::es) t)
  (he:starEach (e::es) X.env=(false,eval e X.env)::starEach es X.env:=by rfl) (hpl:(backTo pos (starEach es X.env)).any (·.1)=false:=by rfl):PE X (.Call (.Name x p) (e::es) [] pos) (tCallV V tv t):=by
 intro pins s σ H Q I h
 obtain⟨h⟩:=h
 refine wpAny_Call_Name_kw (thn (hv pins s σ H _ I h) λu s1 ⟨v,H1,I1,rx,f,sp,ex,vc,hf1,q⟩=>?_)
 subst ex
 obtain rfl:u=Value.ref f:=rx
 have fa:∀{H:Hp}{s:Shared},Inv X pins σ H s->FnH H f->PySem.W.FnAt f s.heap:=λ{H s} I ⟨φ,e,k⟩=>k _ (I.hok f _ e).1
 refine PySem.W.callWith_F (first:=[]) (fa I1 hf1) (thn (ha pos pins s1 σ H1 _ I1 q) λus s2 ⟨vs,H2,I2,r,hf2,q2⟩=>⟨fa I2 hf2,?_⟩) he hpl
 refine wpAny_call (codeAny_mono (hV f sp vc X.A X.stack s2 H2 us vs Q E0 hr I2.env0 r q2) λr s' hq=>?_)
 cases r with
 | error e=>exact hx pins σ H2 s2 e s' I2 hq
 | ok fl=>
  cases fl with
  | ret u=>exact I2.after hq
  | next=>exact False.elim hq
  | brk=>exact False.elim hq
  | cont=>exact False.elim hq
noncomputable def zJ (V:Addr->Sp->Prop) (m:Str) (E:XK) (ta:TE) (t:TA):TE:=λσ H Q=>ta σ H λx H1=>∃a C dx fs sp,x=.ref a/\H1 a=some (.ins C dx fs)/\V C sp/\fs.lookup m=none/\
 t σ H1 λvs H2=>sp (x::vs) H2 Q E
section
variable {X:Cx}{CX:CXT}{k:Nat}{ps:List Str}{E:XK}{m:Str}{pos apos:Pos}{e o:Expr}{es:List Expr}{ta:TE}{t:TA}
theorem jA {V:Addr->Sp->Prop}{pl:Sem Bool} (hV:∀C sp,V C sp->MV X.prog X.w X.K X.mg X.base CX m k ps sp C) (he:PE X o ta) (hr:Room k X.A) (hx:dJ CX X E) (ha:PA X (e::es) t)
  (hst:starEach (e::es) X.env=(false,eval e X.env)::starEach es X.env:=by rfl) (hpl:(backTo pos (starEach es X.env)).any (·.1)=false:=by rfl)
  (ht:eval (.Call (.Attribute o m apos) (e::es) [] pos) X.env=(do
   let ov <- eval o X.env
   standAt apos.atName
   let (f,first) <- holding [ov] (getMethod ov m pl)
   callWith pos f first (backTo pos (starEach (e::es) X.env)) (backToKw pos (keywordEach [] X.env))):=by rfl) :
  PE X (.Call (.Attribute o m apos) (e::es) [] pos) (zJ V m E ta t):=by
 intro pins s σ H Q I h
 refine PySem.W.methodCall_KW (pl:=pl) (thn (he pins s σ H _ I h) λu s1 ⟨x,H1,I1,rx,a,C,dx,fs,sp,ex,ea,vc,l,q⟩=>?_) ht
 obtain⟨c,f,fd,hm,F,hb⟩:=hV C sp vc
 subst ex
 obtain rfl:u=Value.ref a:=rx
 refine eR I1 ea c hm l ?_
 refine PySem.W.callWith_K (first:=[.ref a]) (h₀:=X.base) I.ok.mod.kin hm.kp (thn (ha pos pins s1 σ H1 _ I1 q) λus s2 ⟨vs,H2,I2,r,q2⟩=>⟨I2.kIn,?_⟩) hst hpl
 exact ig (us:=.ref a::us) (vs:=.ref a::vs) (dvs:=[]) F hr hb .nil hx I2 (.cons rfl r) (by rw [List.append_nil];exact q2)
end
end L2
namespace Mine
open PySem L2
variable {P:Program}{w:World}{K:W.Frag}{mg:Str->Option Value}{base:Heap}
noncomputable abbrev bQ:Stmt:=top 58
noncomputable abbrev nE:Stmt:=(cE bQ).getD 0 (.Pass ⟨0,0,0,0⟩)
noncomputable abbrev yF:Pos:=⟨419,4,421,57⟩
noncomputable abbrev jd:Str:=("_law_telling" : Str)++".<locals>."++"_law_told"
abbrev Lm (T:Addr) (H:Hp):Prop:=kG T yF jd H
abbrev Gm (T:Addr) (H H':Hp):Prop:=Go T yF jd H H'
noncomputable def clT (c1 c2:Addr):List (Str × Addr):=[("_law_table_here", c1),("_law_asked", c2)]
inductive Tld (H:Hp) (f la tb:Addr):Prop
 | mk (c1 c2 c':Addr) (n12:c1≠c2) (hf:H f=some (.ext (ko f "_law_told" jd (dl nE) (cE nE) (aq nE) (clT c1 c2) c'))) (hc:H c'=some (.ext (bG c' jd))) (h1:H c1=some (.ext (bF c1 (.ref tb)))) (h2:H c2=some (.ext (bF c2 (.ref la)))):Tld H f la tb
theorem Tld.keep {H H':Hp}{f la tb:Addr} (t:Tld H f la tb) (k:∀b φ,H b=some (.ext φ)->H' b=some (.ext φ)):Tld H' f la tb:=by
 obtain⟨c1,c2,c',n,hf,hc,h1,h2⟩:=t
 exact⟨c1,c2,c',n,k _ _ hf,k _ _ hc,k _ _ h1,k _ _ h2⟩
noncomputable def tel (kvs:List (List Key × V)) (k:Str) (d:Int):V:=(valV kvs [.inr k,.inl d]).getD .non
inductive Askd (H:Hp) (la:Addr) (rs:List RZ):Prop
 | mk (h1:H la=some (.lst (rs.map λr=>V.ref r.2))) (h2:∀r∈rs,H r.2=some (.tup (nF r))):Askd H la rs
noncomputable def zQ (f la tb:Addr) (kvs:List (List Key × V)):Sp:=λvs H Q _=>∃(k:Str) (d:Int) (rs:List RZ),vs=[.str k,.int d]/\Tld H f la tb/\H tb=some (.dT kvs)/\Askd H la rs/\rs.length < 100000/\
 ∀(p:Addr) (H':Hp),H p=none->Off la H H'->Askd H' la (rs++[((k,d),p)])->Q (tel kvs k d) H'
inductive VT (f:Addr) (sp:Sp):Prop
 | mk (la tb:Addr) (kvs:List (List Key × V)) (h:sp=zQ f la tb kvs):VT f sp
theorem xo (c1 c2:Addr) (n:c1≠c2):ClScope ["_law_name", "_law_day", "_law_table_here", "_law_asked"] ["_law_name", "_law_day"] (clT c1 c2) (aq nE) where
 kind:=rfl
 co:=rfl
 gen:=rfl
 nd:=‹0›
 pre:=rfl
 len:=by show 4<=4;decide
 par:=‹0›
 fre:=by show ∀x∈[("_law_table_here" : Str),"_law_asked"],_;decide +kernel
 nocell:=‹0›
 all:=λx h=>by
  have h:=PySem.mem_of_lookup h
  have:∀p∈(aq nE).names,p.2=.free->p.1∈[("_law_table_here" : Str),"_law_asked"]:=‹0›
  exact this _ h rfl
 addr:=by
  show [c1,c2].Nodup
  simp [n]
theorem kT:∀f sp,VT f sp->zD P w K mg base 1 f sp:=by
 rintro f sp ⟨la,tb,kvs,rfl⟩ A outer s H us vs Q E hr e0 r h
 obtain⟨k,d,rs,rfl,T,ht,⟨hl,hrs⟩,hlen,q⟩:=h
 obtain⟨c1,c2,c',n12,hf,hc,h1,h2⟩:=T
 obtain⟨u1,u2,rfl⟩:∃u1 u2,us=[u1,u2]:=by
  cases r with
  | cons a r=>
   cases r with
   | cons b r=>
    cases r
    exact⟨_,_,rfl⟩
 refine yu (k:=0) (cvs:=[.ref tb,.ref la]) hr e0 hf hc (.cons h1 (.cons h2 .nil)) (xo c1 c2 n12) r rfl (λs doc pm ctv=>.of_eq rfl) λhr'=>?_
 have hu:=aL hr'
 refine⟨_,(af (aY (cK PySem.F.plainAttrs_list PySem.F.slot_list_append PySem.F.type_list_append du (pv 3) (aa (bN (aa (pv 0) (aa (pv 1) ae))) ae)))
   (ao (ay (jC hu (pv 2) (bN (aa (pv 0) (aa (pv 1) ae))) ⟨rfl,rfl,rfl,rfl⟩)))),?_⟩
 have nla:la∉(clT c1 c2).map (·.2):=λz=>by
  rcases List.mem_cons.mp z with z | z
  ·rw [z,h1]at hl;cases hl
  ·rw [List.mem_singleton.mp z,h2]at hl;cases hl
 have ntb:tb∉(clT c1 c2).map (·.2):=λz=>by
  rcases List.mem_cons.mp z with z | z
  ·rw [z,h1]at ht;cases ht
  ·rw [List.mem_singleton.mp z,h2]at ht;cases ht
 have hcs:∀c∈(clT c1 c2).map (·.2),∃φ,H c=some (.ext φ):=λc hc=>by
  rcases List.mem_cons.mp hc with z | z
  ·rw [z];exact⟨_,h1⟩
  ·rw [List.mem_singleton.mp z];exact⟨_,h2⟩
 have hl1:less ((clT c1 c2).map (·.2)) H la=some (.lst (rs.map λr=>V.ref r.2)):=by rw [bS nla];exact hl
 have ht1:less ((clT c1 c2).map (·.2)) H tb=some (.dT kvs):=by rw [bS ntb];exact ht
 refine ag (aX ⟨_,rfl,.inl ⟨rfl,_,SqL.of hl1⟩,_,rfl,_,rfl,by show 2<=sizeLine;decide,λp np=>?_⟩)
 have npl:p≠la:=λz=>by rw [z,hl1]at np;cases np
 have npt:p≠tb:=λz=>by rw [z,ht1]at np;cases np
 refine⟨la,_,_,rfl,rfl,by rw [ah (Ne.symm npl)];exact hl1,by rw [List.length_map];exact Nat.lt_of_lt_of_le hlen (by decide),?_⟩
 dsimp only
 have ltb:la≠tb:=λz=>by rw [z,ht]at hl;cases hl
 refine aD ⟨_,rfl,tb,rfl,.inr ⟨kvs,.of (by rw [ah (Ne.symm ltb),ah (Ne.symm npt)];exact ht1)⟩,_,rfl,_,rfl,by show 2<=sizeLine;decide,λp2 np2=>?_⟩
 have p2l:p2≠la:=λz=>by rw [z,aj]at np2;cases np2
 have p2p:p2≠p:=λz=>by rw [z,ah npl,aj]at np2;cases np2
 have p2t:p2≠tb:=λz=>by rw [z,ah (Ne.symm ltb),ah (Ne.symm npt),ht1]at np2;cases np2
 refine⟨_,.inr ⟨kvs,[.inr k,.inl d],p2,.of (by rw [ah (Ne.symm p2t),ah (Ne.symm ltb),ah (Ne.symm npt)];exact ht1),rfl,aj,rfl⟩,?_⟩
 intro nC
 have pC:p∉(clT c1 c2).map (·.2):=λz=>by
  have:=nC p z
  rw [ah (Ne.symm p2p),ah npl,aj]at this
  cases this
 have p2C:p2∉(clT c1 c2).map (·.2):=λz=>by
  have:=nC p2 z
  rw [aj]at this
  cases this
 have np0:H p=none:=by rw [bS pC]at np;exact np
 have np20:H p2=none:=by
  rw [ah p2l,ah p2p,bS p2C]at np2
  exact np2
 have off:∀b o,H b=some o->b≠la->back ((clT c1 c2).map (·.2)) H (upd (upd (upd (less ((clT c1 c2).map (·.2)) H) p (.tup [.str k,.int d])) la (.lst ((rs.map λr=>V.ref r.2)++[.ref p]))) p2 (.tup [.str k,.int d])) b=some o:=λb o e n=>by
  by_cases z:b∈(clT c1 c2).map (·.2)
  ·rw [mR z];exact e
  ·rw [cC z,ah (ai e np20),ah n,ah (ai e np0),bS z];exact e
 refine q p _ np0 off ⟨?_,λr hr=>?_⟩
 ·rw [cC nla,ah (Ne.symm p2l),aj,List.map_append]
  rfl
 ·rcases List.mem_append.mp hr with hr | hr
  ·refine off _ _ (hrs r hr) λz=>?_
   have:=hrs r hr
   rw [z,hl]at this
   cases this
  ·rw [List.mem_singleton.mp hr]
   show back _ _ _ p=_
   rw [cC pC,ah (Ne.symm p2p),ah npl,aj]
   rfl
noncomputable def kP (T:Addr):Sp:=λvs H Q _=>∃(tb la:Addr),vs=[.ref tb,.ref la]/\Lm T H/\∀(f:Addr) (H':Hp),H f=none->Gm T H H'->Tld H' f la tb->Q (.ref f) H'
theorem kS:FnScope ["_law_table_here", "_law_asked", "_law_told"] ["_law_table_here", "_law_asked"] (aq bQ):=‹2›
theorem pV {f c T:Addr}{fd:FuncData}{oc kV doc pm ct:Value}{od an:Option Addr}{osl:Array (Option Value)} (F:Fun K "_law_telling" "_law_telling" bQ f fd)
  (lk:K.lookup f=some ⟨oc,od,.func (PySem.W.fnOf "_law_telling" "_law_telling" (dl bQ) (cE bQ) (aq bQ) .none kV doc pm an (.ref c) ct),osl⟩) (hC:PySem.W.CodeHd base c T) (hB:base.BuiltinsAt mg T) :
  FnOk P w K mg base CX0 2 f fd ["_law_table_here", "_law_asked"] (kP T):=by
 refine F.okA (k:=1) kS (λvs H Q E h=>?_) λcdv A outer s H vs Q E hr hk h=>?_
 ·obtain⟨tb,la,rfl,_⟩:=h
  rfl
 ·obtain⟨tb,la,rfl,L,q⟩:=h
  obtain⟨oc',od',kV',doc',pm',an',ct',osl',lk'⟩:=hk
  rw [lk]at lk'
  have ec:cdv=.ref c:=by
   have e:=congrArg (λo:Option Obj=>o.map λx=>match x.data with | .func fd=>fd.code | _=>Value.none) lk'
   exact(Option.some.inj e).symm
  subst ec
  refine⟨_,uY (As (i:=2) (clos:=clT (s.heap.objs.size+1) (s.heap.objs.size+2)) (q:=jd) kS.nd rfl (Or.inl rfl) rfl hC hB rfl) (xI (pv 2)),?_⟩
  refine⟨L,λH' f' c' G nf hc hf=>?_⟩
  refine⟨_,rfl,[(s.heap.objs.size+1,.ref tb),(s.heap.objs.size+2,.ref la)],?_,λnC=>?_⟩
  ·intro c v e
   rw [List.lookup_cons]at e
   by_cases z:c=s.heap.objs.size+1
   ·rw [beq_iff_eq.mpr z]at e
    cases e
    rw [z]
    exact⟨0,"_law_table_here", rfl,rfl,(show (aq bQ).names.lookup _=_ from ‹0›),rfl⟩
   ·rw [beq_eq_false_iff_ne.mpr z,List.lookup_cons]at e
    by_cases z2:c=s.heap.objs.size+2
    ·rw [beq_iff_eq.mpr z2]at e
     cases e
     rw [z2]
     exact⟨1,"_law_asked", rfl,rfl,(show (aq bQ).names.lookup _=_ from ‹0›),rfl⟩
    ·rw [beq_eq_false_iff_ne.mpr z2]at e
     cases e
  ·have out:∀b o,H' b=some o->iH [(s.heap.objs.size+1,V.ref tb),(s.heap.objs.size+2,V.ref la)] H' b=some o:=λb o e=>by
    rw [cI ?_]
    ·exact e
    ·cases z:List.lookup b [(s.heap.objs.size+1,V.ref tb),(s.heap.objs.size+2,V.ref la)] with
     | none=>rfl
     | some v=>rw [nC b v z]at e;cases e
   refine q f' _ nf ⟨λb o n e=>out _ _ (G.same b o n e),?_⟩ ⟨s.heap.objs.size+1,s.heap.objs.size+2,c',Nat.ne_of_lt (Nat.lt_succ_self _),out _ _ hf,out _ _ hc,kf ?_,kf ?_⟩
   ·rcases G.lam with e | ⟨c1,e1,e2⟩
    ·exact .inl (out _ _ e)
    ·exact .inr ⟨c1,out _ _ e1,out _ _ e2⟩
   ·rw [List.lookup_cons,beq_self_eq_true]
   ·rw [List.lookup_cons,beq_eq_false_iff_ne.mpr (Nat.ne_of_gt (Nat.lt_succ_self _)),List.lookup_cons,beq_self_eq_true]
noncomputable def b9 (k:Str) (f:Int) (n:Nat):List (Str × Int):=(List.range n).map λi:Nat=>(k,f+i)
noncomputable def ce (f l:Int):Nat:=(l+1 - f).toNat
noncomputable def nmV:V->Option Int
 | .int n=>some n
 | _=>none
noncomputable def eX (vs:List V):List Int:=vs.filterMap nmV
def kH (v:V):Prop:=v=.non\/∃n,v=.int n
def zB (kvs:List (List Key × V)):Prop:=∀k d,kH (tel kvs k d)
theorem vL (us vs:List V):eX (us++vs)=eX us++eX vs:=List.filterMap_append
noncomputable def cV (T:Str->Int->V) (ps:List (Str × Int)):List V:=ps.map λp=>T p.1 p.2
noncomputable def gat (w:Str) (ns:List Int):V:=if w=‹"sum"› then .int ns.sum else if w=‹"count"› then .int ns.length else if w=‹"least"› then cA ns else cB ns
inductive TeA (f la tb:Addr) (kvs:List (List Key × V)) (H:Hp) (rs:List RZ):Prop
 | mk (t:Tld H f la tb) (ht:H tb=some (.dT kvs)) (ha:Askd H la rs):TeA f la tb kvs H rs
noncomputable def prs (rs:List RZ):List (Str × Int):=rs.map (·.1)
theorem TeA.off {f la tb:Addr}{kvs:List (List Key × V)}{H H':Hp}{rs rs':List RZ} (h:TeA f la tb kvs H rs) (o:Off la H H') (a:Askd H' la rs'):TeA f la tb kvs H' rs':=by
 obtain⟨t,ht,⟨h1,_⟩⟩:=h
 refine⟨t.keep λb φ e=>o _ _ e λz=>?_,o _ _ ht λz=>?_,a⟩
 ·rw [z,h1]at e;cases e
 ·rw [z,h1]at ht;cases ht
theorem Askd.grow {la:Addr}{H H':Hp}{rs:List RZ} (h:Askd H la rs) (g:bh H H'):Askd H' la rs:=by
 obtain⟨h1,h2⟩:=h
 exact⟨g _ _ h1,λr hr=>g _ _ (h2 r hr)⟩
theorem TeA.grow {f la tb:Addr}{kvs:List (List Key × V)}{H H':Hp}{rs:List RZ} (h:TeA f la tb kvs H rs) (g:bh H H'):TeA f la tb kvs H' rs:=by
 obtain⟨t,ht,a⟩:=h
 exact⟨t.keep λb φ e=>g _ _ e,g _ _ ht,a.grow g⟩
theorem TeA.lst {f la tb:Addr}{kvs:List (List Key × V)}{H:Hp}{rs:List RZ} (h:TeA f la tb kvs H rs):∃xs,H la=some (.lst xs):=let ⟨_,_,⟨h1,_⟩⟩:=h;⟨_,h1⟩
theorem Askd.off {la b:Addr}{H H':Hp}{rs:List RZ} (h:Askd H la rs) (n:b≠la) (nr:∀xs,H b≠some (.tup xs)) (g:∀b' o,H b'=some o->b'≠b->H' b'=some o):Askd H' la rs:=by
 obtain⟨h1,h2⟩:=h
 exact⟨g _ _ h1 (Ne.symm n),λr hr=>g _ _ (h2 r hr) λz=>nr _ (by rw [<- z];exact h2 r hr)⟩
theorem Tld.fn {H:Hp}{f la tb:Addr} (t:Tld H f la tb):FnH H f:=by
 obtain⟨_,_,_,_,hf,_,_,_⟩:=t
 exact FnH.of hf
theorem qE {f la tb:Addr}{kvs:List (List Key × V)}{H:Hp}{rs:List RZ}{k:Str}{d:Int}{Q:VK} (h:TeA f la tb kvs H rs) (hl:rs.length < 100000) (q:∀(p:Addr) (H':Hp),Off la H H'->Askd H' la (rs++[((k,d),p)])->Q (tel kvs k d) H'):∃sp,VT f sp/\FnH H f/\FnH H f/\sp [.str k,.int d] H Q E0:=by
 obtain⟨t,ht,a⟩:=h
 exact⟨_,⟨la,tb,kvs,rfl⟩,t.fn,t.fn,k,d,rs,rfl,t,ht,a,hl,λp H' _ o a'=>q p H' o a'⟩
theorem wD {f la tb:Addr}{kvs:List (List Key × V)}{rs:List RZ}{k:Str}{lo:Int}{n:Nat}{sub:List Nat}{te:TE}{σ:St}{Q:VK}{H:Hp} (hT:TeA f la tb kvs H rs) (hn:n<=1000) (hl:rs.length+n < 100000)
  (hte:∀(d:Int) (H2:Hp) (rs2:List RZ) (R:VK),TeA f la tb kvs H2 rs2->rs2.length < 100000->(∀(p:Addr) (H3:Hp),Off la H2 H3->Askd H3 la (rs2++[((k,d),p)])->R (tel kvs k d) H3)->te (some (.int d)::bJ sub σ) H2 R)
  (hq:∀(D:Addr) (H':Hp) (rs':List RZ),H D=none->Off la H H'->Askd H' la rs'->prs rs'=prs rs++b9 k lo n->H' D=some (.lst (cV (tel kvs) (b9 k lo n)))->Q (.ref D) H'):fW (Itr lo n) sub (λ_ H Q=>Q true H) te σ Q H:=by
 intro D nD
 have nDl:D≠la:=λz=>by obtain⟨xs,e⟩:=hT.lst;rw [z,e]at nD;cases nD
 refine eT (lo:=lo) (n:=n) (sub:=sub) (tt:=λ_ H Q=>Q true H) (te:=te) (Q:=Q) (σ:=σ) (λi ys H2=>∃rs2,ys=cV (tel kvs) (b9 k lo i)/\H2 D=some (.lst ys)/\Off la H H2/\TeA f la tb kvs H2 rs2/\prs rs2=prs rs++b9 k lo i) ⟨rs,rfl,aj,Off.grow (laid nD).1,hT.grow (laid nD).1,by rw [show b9 k lo 0=[] from rfl,List.append_nil]⟩ (λi ys H2 hi hh=>?_) λys H2 hh=>?_
 ·obtain⟨rs2,rfl,e2,o2,t2,p2⟩:=hh
  have hz:rs2.length=rs.length+i:=by
   have:=congrArg List.length p2
   unfold prs b9 at this
   rw [List.length_append,List.length_map,List.length_map,List.length_map,List.length_range]at this
   exact this
  refine bB (hte _ _ rs2 _ t2 ‹1› λp H3 o3 a3=>?_)
  have nD3:∀xs,H3 D≠some (.tup xs):=λxs z=>by rw [o3 _ _ e2 nDl]at z;cases z
  have a4:=a3.off (b:=D) (H':=upd H3 D (.lst (cV (tel kvs) (b9 k lo i)++[tel kvs k (lo+i)]))) nDl nD3 (λb' o e n=>by rw [ah n];exact e)
  have ep:b9 k lo (i+1)=b9 k lo i++[(k,lo+i)]:=by unfold b9;rw [List.range_succ,List.map_append];rfl
  have o4:Off la H2 (upd H3 D (.lst (cV (tel kvs) (b9 k lo i)++[tel kvs k (lo+i)])))\/True:=.inr trivial
  refine⟨o3 _ _ e2 nDl,?_,rs2++[((k,lo+i),p)],?_,aj,λb o e nb=>?_,?_,?_⟩
  ·unfold cV b9;rw [List.length_map,List.length_map,List.length_range];exact bj ‹1›
  ·rw [ep];unfold cV;rw [List.map_append];rfl
  ·rw [ah (ai e nD)];exact o3 _ _ (o2 _ _ e nb) nb
  ·obtain⟨tt,ht,_⟩:=t2.off o3 a3
   refine⟨tt.keep λb φ e=>?_,?_,a4⟩
   ·rw [ah λz=>by rw [z,o3 _ _ e2 nDl]at e;cases e];exact e
   ·rw [ah λz=>by rw [z,o3 _ _ e2 nDl]at ht;cases ht];exact ht
  ·rw [ep,<- List.append_assoc,<- p2]
   unfold prs
   rw [List.map_append]
   rfl
 ·obtain⟨rs2,rfl,e2,o2,t2,p2⟩:=hh
  obtain⟨_,_,a2⟩:=t2
  exact hq D H2 rs2 nD o2 a2 p2 e2
noncomputable def jj:Sp:=λvs H Q _=>∃(f la tb:Addr) (kvs:List (List Key × V)) (rs:List RZ) (k:Str) (f0 l0:Int),vs=[.ref f,.str k,.int f0,.int l0]/\TeA f la tb kvs H rs/\kI f0 l0/\rs.length < 90000/\
 ∀(D:Addr) (H':Hp) (rs':List RZ),H D=none->Off la H H'->Askd H' la rs'->prs rs'=prs rs++b9 k f0 (ce f0 l0)->H' D=some (.lst (cV (tel kvs) (b9 k f0 (ce f0 l0))))->Q (.ref D) H'
noncomputable abbrev i8:Stmt:=top 28
theorem pj:FnScope ["told", "key", "first", "last"] ["told", "key", "first", "last"] (aq i8):=‹2›
theorem nU {f:Addr}{fd:FuncData} (F:Fun K "tellings" "tellings" i8 f fd) (N:Free mg):FnOk P w K mg base CX0 3 f fd ["told", "key", "first", "last"] jj:=by
 refine F.ok (k:=2) pj (λvs H Q E h=>?_) (λcdv A outer s H vs Q E hr h=>?_)
 ·obtain⟨f,la,tb,kvs,rs,k,f0,l0,rfl,_⟩:=h
  rfl
 ·obtain⟨f,la,tb,kvs,rs,k,f0,l0,rfl,hT,⟨d0,d1,d2⟩,hl,q⟩:=h
  have hu:=aL hr
  refine⟨_,(ao (ay (fR (bT rfl (im rfl N.range (aa (pv 2) (aa (b8 bV (pv 3) au) ae))) rfl rfl (by show ∀p∈_,iB [‹"told"›, ‹"key"›] p;decide) (by decide) rfl (by show ([‹"day"›, ‹"told"›, ‹"key"›]:List Str).Nodup;decide) (.cons (i:=0) rfl (.inr (.inl rfl)) (by show (some NameKind.cell)≠some NameKind.local;decide) (.inl rfl) rfl (.cons (i:=1) rfl (.inr (.inl rfl)) (by show (some NameKind.cell)≠some NameKind.local;decide) (.inl rfl) rfl .nil)) (λC fp s H=>df) (λC fp s H=>(nL kT (pv 1) (hr.mono (by decide)) av (aa (pv 2) (aa (pv 0) ae)))))))),?_⟩
  refine aD (de ?_)
  refine⟨_,rfl,_,rfl,_,_,rfl,rfl,f0,l0+1,rfl,⟨by omega,by omega,by omega,by omega⟩,?_⟩
  have en:(l0+1 - f0).toNat=ce f0 l0:=rfl
  have hn:ce f0 l0<=400:=by unfold ce;omega
  refine wD (n:=ce f0 l0) hT ‹1› ‹1› (λd H2 rs2 R h2 hl2 hR=>?_) λD H' rs' nD o a p e=>q D H' rs' nD o a p e
  obtain⟨sp,hv,h3,h4,h5⟩:=qE (k:=k) (d:=d) h2 hl2 hR
  exact⟨_,rfl,f,sp,rfl,hv,h3,_,rfl,_,rfl,h4,h5⟩
noncomputable abbrev ie:Stmt:=top 29
noncomputable def jl:Sp:=λvs H Q _=>∃(w:Str) (lv:Addr) (ns:List Int),vs=[.str w,.ref lv]/\H lv=some (.lst (ns.map V.int))/\Q (gat w ns) H
theorem pq:FnScope ["word", "values"] ["word", "values"] (aq ie):=‹2›
theorem nV {f:Addr}{fd:FuncData} (F:Fun K "gathered" "gathered" ie f fd) (N:Free mg):FnOk P w K mg base CX0 1 f fd ["word", "values"] jl:=by
 refine F.ok (k:=0) pq (λvs H Q E h=>?_) (λcdv A outer s H vs Q E hr h=>?_)
 ·obtain⟨w,lv,ns,rfl,_⟩:=h
  rfl
 ·obtain⟨w,lv,ns,rfl,hl,q⟩:=h
  have hu:=aL hr
  refine⟨_,(af (bt (aK bK (pv 0) aB (aS _)) (ao (ay (aG (lz rfl) (by rfl) N.sum PyProof.Rows.Boot.«sum» (aa (pv 1) ae)))) aI)
   (af (bt (aK bK (pv 0) aB (aS _)) (ao (ay (aG aO (by rfl) N.len PySem.boot_len (aa (pv 1) ae)))) aI)
   (af (bt (aK bK (pv 0) aB (aS _)) (ao (ay (vi rfl rfl N.min (aa (pv 1) ae) (qS gi v0)))) aI)
   (ao (ay (vj rfl rfl N.max (aa (pv 1) ae) (qS gi v0))))))),?_⟩
  unfold gat at q
  refine ag (aH ⟨_,rfl,rfl,_,rfl,?_⟩)
  by_cases h1:w=‹"sum"›
  ·rw [if_pos h1]at q
   rw [decide_eq_true (show V.str w=V.str ‹"sum"› by rw [h1])]
   exact bB (aD ⟨_,rfl,lv,ns,rfl,SqL.of hl,q⟩)
  rw [if_neg h1]at q
  rw [decide_eq_false (λz=>h1 (V.str.inj z))]
  refine aZ (aA ?_)
  dsimp only
  refine ag (aH ⟨_,rfl,rfl,_,rfl,?_⟩)
  by_cases h2:w=‹"count"›
  ·rw [if_pos h2]at q
   rw [decide_eq_true (show V.str w=V.str ‹"count"› by rw [h2])]
   refine bB (aD ⟨_,rfl,lv,_,rfl,.inl (SqL.of hl),?_⟩)
   rw [List.length_map]
   exact q
  rw [if_neg h2]at q
  rw [decide_eq_false (λz=>h2 (V.str.inj z))]
  refine aZ (aA ?_)
  dsimp only
  refine ag (aH ⟨_,rfl,rfl,_,rfl,?_⟩)
  by_cases h3:w=‹"least"›
  ·rw [if_pos h3]at q
   rw [decide_eq_true (show V.str w=V.str ‹"least"› by rw [h3])]
   exact bB (aD ⟨_,rfl,lv,ns,rfl,rfl,SqL.of hl,q⟩)
  rw [if_neg h3]at q
  rw [decide_eq_false (λz=>h3 (V.str.inj z))]
  refine aZ (aA ?_)
  dsimp only
  exact aD ⟨_,rfl,lv,ns,rfl,rfl,SqL.of hl,q⟩
noncomputable abbrev pD:Stmt:=aU (top 18) 1
noncomputable abbrev pB:Stmt:=aU (top 19) 1
noncomputable abbrev pE:Stmt:=aU (top 20) 1
noncomputable abbrev pA:Stmt:=aU (top 17) 5
noncomputable def lfK:Lf->Nat
 | .num _=>0
 | .val _ _=>1
 | .gth _ _ _ _=>2
 | .snc _ _ _ _=>3
 | .prt _ _ _ _=>4
 | .chg _ _ _ _=>5
noncomputable def sC:Lf->List (Str × Int)
 | .val k d=>[(k,d)]
 | .gth _ ks f l=>(aN ks).flatMap λk=>b9 k f (ce f l)
 | _=>[]
noncomputable def vS (T:Str->Int->V):Lf->V
 | .num z=>.int z
 | .val k d=>T k d
 | .gth w ks f l=>gat w (eX (cV T ((aN ks).flatMap λk=>b9 k f (ce f l))))
 | _=>.non
inductive PlI (A:(Str->Int->V)->Lf->V) (R:(Str->Int->V)->Lf->List (Str × Int)) (c:Cs) (l:Lf) (x f:Addr) (H:Hp) (Q:VK):Prop
 | mk (la tb:Addr) (kvs:List (List Key × V)) (rs:List RZ) (hx:LfX c l H x) (ok:dL l) (T:TeA f la tb kvs H rs) (tab:zB kvs) (hl:rs.length < 80000) (q:∀(rs':List RZ) (H':Hp),Off la H H'->Askd H' la rs'->prs rs'=prs rs++R (tel kvs) l->Q (A (tel kvs) l) H'):PlI A R c l x f H Q
noncomputable def rR (c:Cs) (n:Nat):Sp:=λvs H Q _=>∃(x f:Addr) (l:Lf),vs=[.ref x,.ref f]/\lfK l=n/\PlI vS (λ_=>sC) c l x f H Q
inductive VPl (c:Cs):Addr->Sp->Prop
 | mk (l0:Lf) (h:lfK l0 < 3):VPl c (lfC c l0) (rR c (lfK l0))
theorem vR {l:Lf}{ln:Addr}{m:Str} (hm:m∉cW):(oo l ln).lookup m=none:=Ap hm (on l ln)
theorem jG:∀{vs:List V},(∀v∈vs,kH v)->vs.filter (λv=>decide (v≠.non))=(eX vs).map V.int
 | [],_=>rfl
 | v::vs,h=>by
  have ih:=jG λu hu=>h u (List.mem_cons_of_mem _ hu)
  rcases h v List.mem_cons_self with rfl | ⟨n,rfl⟩
  ·rw [List.filter_cons_of_neg (by simp),ih];rfl
  ·rw [List.filter_cons_of_pos (by simp),ih];rfl
theorem wG {K:W.Frag}{la:Addr}{xs:List V}{sub:List Nat}{tt:TT}{te:TE}{σ:St}{Q:VK}{H:Hp} (hn:xs.length < 1000) (ha:H la=some (.lst xs))
  (htt:∀(v:V) (H2:Hp) (R:Bool->Hp->Prop),R (decide (v≠.non)) H2->tt (some v::bJ sub σ) H2 R) (hte:∀(v:V) (H2:Hp) (R:VK),R v H2->te (some v::bJ sub σ) H2 R)
  (hq:∀(D:Addr),H D=none->Q (.ref D) (upd H D (.lst (xs.filter λv=>decide (v≠.non))))):fW (Itl K la) sub tt te σ Q H:=by
 intro D nD
 have nl:la≠D:=ai ha nD
 refine eA (K:=K) (a:=la) (xs:=xs) (sub:=sub) (tt:=tt) (te:=te) (Q:=Q) (σ:=σ) (λi ys H2=>ys=(xs.take i).filter (λv=>decide (v≠.non))/\H2=upd H D (.lst ys)) ⟨by rw [List.take_zero];rfl,rfl⟩ (λi ys H2 _ hh=>?_) (λi x ys H2 hi hh=>?_) λys H2 hh=>?_
 ·obtain⟨_,rfl⟩:=hh
  exact SqL.of (by rw [ah nl];exact ha)
 ·obtain⟨rfl,rfl⟩:=hh
  have lf:=List.length_filter_le (λv=>decide (v≠V.non)) (xs.take i)
  rw [List.length_take]at lf
  refine htt x _ _ ?_
  by_cases hx:x=.non
  ·rw [hx,decide_eq_false (by simp)]
   refine aZ ⟨?_,rfl⟩
   rw [List.take_add_one,hi,List.filter_append,hx]
   simp
  ·rw [decide_eq_true hx]
   refine bB (hte x _ _ ⟨aj,bj ‹1›,?_,bv⟩)
   rw [List.take_add_one,hi,List.filter_append]
   simp [hx]
 ·obtain⟨rfl,rfl⟩:=hh
  rw [List.take_length]
  exact hq D nD
theorem dy (f:Int) (n:Nat):∀ks:List Str,(ks.flatMap λk=>b9 k f n).length<=n * ks.length
 | []=>Nat.zero_le _
 | k::ks=>by
  rw [List.flatMap_cons,List.length_append,List.length_cons,Nat.mul_succ]
  have:=dy f n ks
  have h:(b9 k f n).length=n:=by unfold b9;rw [List.length_map,List.length_range]
  omega
inductive GtI (H:Hp) (x f lv la tb:Addr) (kvs:List (List Key × V)) (ks:List Str) (rs:List RZ) (f0 l0:Int) (i:Nat) (σ:St) (H2:Hp):Prop
 | mk (v3 v4:Option V) (ns:List Int) (rs2:List RZ) (h1:σ=[some (.ref x),some (.ref f),some (.ref lv),v3,v4]) (h2:Off la H H2) (h3:TeA f la tb kvs H2 rs2) (h4:H2 lv=some (.lst (ns.map V.int))) (h5:True=True) (h6:prs rs2=prs rs++(ks.take i).flatMap λk=>b9 k f0 (ce f0 l0)) (h7:ns=eX (cV (tel kvs) ((ks.take i).flatMap λk=>b9 k f0 (ce f0 l0)))):GtI H x f lv la tb kvs ks rs f0 l0 i σ H2
theorem xr:FnScope ["self", "told"] ["self", "told"] (aq pD):=‹2›
theorem vt {f:Addr}{fd:FuncData} (F:Fun K "plain" "Number.plain" pD f fd){c:Cs} (VQ:∀C∈c.all,QuC K C):FnOk P w K mg base CX0 1 f fd ["self", "told"] (rR c 0):=by
 refine F.ok (k:=0) xr (λvs H Q E h=>?_) (λcdv A outer s H vs Q E hr h=>?_)
 ·obtain⟨x,f,l,rfl,_⟩:=h
  rfl
 ·obtain⟨x,f,l,rfl,hk,⟨la,tb,kvs,rs,hx,ok,hT,tab,hl,q⟩⟩:=h
  have hu:=aL hr
  refine⟨_,(ao (ay (cb (pv 0) rfl))),?_⟩
  cases l with
  | num z=>
   obtain⟨dx,ln,h1,h2⟩:=hx
   obtain⟨_,_,ha⟩:=hT
   refine aD ⟨_,rfl,x,c.num,dx,_,_,rfl,h1,(VQ _ (gp c (.num z))).cl,(VQ _ (gp c (.num z))).a_number,rfl,?_⟩
   exact q rs H (λ_ _ e _=>e) ha (List.append_nil _).symm
  | _=>cases hk
theorem xq:FnScope ["self", "told"] ["self", "told"] (aq pB):=‹2›
theorem vq {f:Addr}{fd:FuncData} (F:Fun K "plain" "Value.plain" pB f fd){c:Cs} (VQ:∀C∈c.all,QuC K C):FnOk P w K mg base CX0 2 f fd ["self", "told"] (rR c 1):=by
 refine F.ok (k:=1) xq (λvs H Q E h=>?_) (λcdv A outer s H vs Q E hr h=>?_)
 ·obtain⟨x,f,l,rfl,_⟩:=h
  rfl
 ·obtain⟨x,f,l,rfl,hk,⟨la,tb,kvs,rs,hx,ok,hT,tab,hl,q⟩⟩:=h
  have hu:=aL hr
  refine⟨_,(ao (ay (nL kT (pv 1) (hr.mono (by decide)) av (aa (cb (pv 0) rfl) (aa (cb (pv 0) rfl) ae))))),?_⟩
  cases l with
  | val k d=>
   obtain⟨dx,ln,h1,h2⟩:=hx
   obtain⟨sp,hv,h3,h4,h5⟩:=qE (k:=k) (d:=d) hT ‹1› (λp H' o a=>q _ H' o a (by unfold prs;rw [List.map_append];rfl))
   have T:=VQ _ (gp c (.val k d))
   exact aD ⟨_,rfl,f,sp,rfl,hv,h3,_,rfl,x,c.val,dx,_,_,rfl,h1,T.cl,T.a_key,rfl,_,rfl,x,c.val,dx,_,_,rfl,h1,T.cl,T.a_day,rfl,h4,h5⟩
  | _=>cases hk
theorem iT:FnScope ["self", "told", "values", "key", "row"] ["self", "told"] (aq pE):=‹2›
theorem vw {f f1 f2:Addr}{fd:FuncData} (F:Fun K "plain" "Gathering.plain" pE f fd) (N:Free mg){c:Cs} (VQ:∀C∈c.all,QuC K C){fd1:FuncData} (CT:Cal P w K mg base "tellings" 3 ["told", "key", "first", "last"] jj f1 fd1){fd2:FuncData} (CG:Cal P w K mg base "gathered" 1 ["word", "values"] jl f2 fd2):FnOk P w K mg base CX0 4 f fd ["self", "told"] (rR c 2):=by
 refine F.ok (k:=3) iT (λvs H Q E h=>?_) (λcdv A outer s H vs Q E hr h=>?_)
 ·obtain⟨x,f,l,rfl,_⟩:=h
  rfl
 ·obtain⟨x,f,l,rfl,hk,⟨la,tb,kvs,rs,hx,ok,hT,tab,hl,q⟩⟩:=h
  have hu:=aL hr
  refine⟨_,(af (aE (i:=2) iT.nd rfl (Or.inl rfl) (aR ae))
   (af (eJ PassesOwn.never rfl (dg (cb (pv 0) rfl)) (bC (i:=3) iT.nd rfl (Or.inl rfl))
   (af (aE (i:=4) iT.nd rfl (Or.inl rfl) (aw CT.ok (hr.mono (by decide)) rfl CT.nm CT.kp CT.bd .nil av (aa (pv 1) (aa (pv 3) (aa (cb (pv 0) rfl) (aa (cb (pv 0) rfl) ae))))))
   (ao (aY (cK PySem.F.plainAttrs_list PySem.F.slot_list_extend PySem.F.type_list_extend fG (pv 2) (aa (fR (bT rfl (dg (pv 4)) rfl rfl (by show ∀p∈_,iB [] p;decide) (by decide) rfl (by show ([‹"value"›]:List Str).Nodup;decide) .nil (λC fp s H=>(qR (mh (mj (pv 0))))) (λC fp s H=>(pv 0)))) ae))))))
   (ao (ay (aw CG.ok (hr.mono (by decide)) rfl CG.nm CG.kp CG.bd .nil av (aa (cb (pv 0) rfl) (aa (pv 2) ae))))))),?_⟩
  cases l with
  | gth w ks f0 l0=>
   obtain⟨dx,ln,h1,h2⟩:=hx
   have T:=VQ _ (gp c (.gth w ks f0 l0))
   obtain⟨hw,⟨k1,k8,hnd,hks⟩,hd⟩:=id ok
   have nll:ln≠la:=λz=>by
    obtain⟨_,_,⟨hl1,_⟩⟩:=hT
    rw [z,hl1]at h2
    have e:rs.map (λr=>V.ref r.2)=(aN ks).map V.str:=HO.lst.inj (Option.some.inj h2)
    have hk0:aN ks≠[]:=λz0=>by
     cases ks with
     | nil=>cases k1
     | cons k0 kr=>have:=(jD (x:=k0) (ks:=k0::kr)).mpr List.mem_cons_self;rw [z0]at this;cases this
    cases ho:aN ks with
    | nil=>exact hk0 ho
    | cons a r0=>
     rw [ho]at e
     cases rs with
     | nil=>cases e
     | cons r1 rr=>cases e
   refine ag (aC ⟨by show 0<=sizeLine;decide,λlv nv=>?_⟩)
   walk_at "d"
   obtain⟨g1,e1⟩:=laid (o:=.lst []) nv
   have nvl:lv≠la:=λz=>by obtain⟨xs,e⟩:=hT.lst;rw [z,e]at nv;cases nv
   have hT1:=hT.grow g1
   generalize upd H lv _=H1 at g1 e1 hT1 ⊢
   have hol:(aN ks).length<=8:=Nat.le_trans (dZ _ ks rfl) k8
   have hn4:ce f0 l0<=400:=by unfold ce;have:=hd.1;have:=hd.2.2;omega
   refine ag ⟨_,rfl,x,c.gth,dx,_,_,rfl,g1 _ _ h1,T.cl,T.a_names,rfl,ln,rfl,⟨_,SqL.of (g1 _ _ h2)⟩,gR (K:=K) (a:=ln) (xs:=(aN ks).map V.str) (GtI H x f lv la tb kvs (aN ks) rs f0 l0) ⟨none,none,[],rs,rfl,Off.grow g1,hT1,e1,rfl,by rw [show ((aN ks).take 0).flatMap _=[] from rfl,List.append_nil],rfl⟩ (λi σ H3 _ hh=>?_) (λi v σ H3 hi hh=>?_) λσ H3 hh=>?_⟩
   ·obtain⟨v3,v4,ns,rs3,rfl,o3,t3,e3,_⟩:=hh
    exact SqL.of (o3 _ _ h2 nll)
   ·obtain⟨v3,v4,ns,rs3,rfl,o3,t3,e3,p3,p4,p5⟩:=hh
    rw [List.getElem?_map]at hi
    obtain⟨k,hk1,rfl⟩:=Option.map_eq_some_iff.mp hi
    have hil:=(List.getElem?_eq_some_iff.mp hk1).1
    have et:(aN ks).take (i+1)=(aN ks).take i++[k]:=by rw [List.take_add_one,hk1];rfl
    walk_at "d"
    have nxl:x≠la:=λz=>by obtain⟨xs,e⟩:=hT.lst;rw [<- z,h1]at e;cases e
    have h13:=o3 _ _ h1 nxl
    have hz3:rs3.length<=rs.length+400 * i:=by
     have:=congrArg List.length p4
     unfold prs at this
     rw [List.length_append,List.length_map,List.length_map]at this
     have hf:=dy f0 (ce f0 l0) ((aN ks).take i)
     rw [List.length_take,Nat.min_eq_left (Nat.le_of_lt hil)]at hf
     have hm:=Nat.mul_le_mul_right i hn4
     omega
    refine ag (aC ⟨_,rfl,_,rfl,_,rfl,x,c.gth,dx,_,_,rfl,h13,T.cl,T.a_first,rfl,_,rfl,x,c.gth,dx,_,_,rfl,h13,T.cl,T.a_last,rfl,f,la,tb,kvs,rs3,k,f0,l0,rfl,t3,hd,by omega,λD H4 rs4 nD o4 a4 p6 eD=>?_⟩)
    walk_at "d"
    have t4:=t3.off o4 a4
    have nDl:D≠la:=λz=>by obtain⟨xs,e⟩:=t3.lst;rw [z,e]at nD;cases nD
    have nvD:lv≠D:=ai e3 nD
    have e34:=o4 _ _ e3 nvl
    have hrl:(cV (tel kvs) (b9 k f0 (ce f0 l0))).length=ce f0 l0:=by unfold cV b9;rw [List.length_map,List.length_map,List.length_range]
    refine aX ⟨_,rfl,.inl ⟨rfl,_,SqL.of e34⟩,?_⟩
    refine de ⟨_,rfl,D,rfl,⟨_,SqL.of eD⟩,wG (xs:=cV (tel kvs) (b9 k f0 (ce f0 l0))) (by rw [hrl];omega) eD (λv H5 R hR=>⟨_,rfl,_,rfl,by rw [show (!decide (v=V.non))=decide (v≠V.non) from by simp];exact hR⟩) (λv H5 R hR=>⟨_,rfl,hR⟩) λD2 nD2=>?_⟩
    rw [jG λv hv=>by obtain⟨p,_,rfl⟩:=List.mem_map.mp hv;exact tab _ _]
    have nvD2:lv≠D2:=ai e34 nD2
    have nl2:la≠D2:=λz=>by obtain⟨xs,e⟩:=t4.lst;rw [<- z,e]at nD2;cases nD2
    obtain⟨g5,e5⟩:=laid (o:=.lst ((eX (cV (tel kvs) (b9 k f0 (ce f0 l0)))).map V.int)) nD2
    have t5:=t4.grow g5
    have e35:=g5 _ _ e34
    generalize upd H4 D2 _=H5 at g5 e5 t5 e35 ⊢
    have hnl:ns.length<=400 * i:=by
     rw [p5]
     refine Nat.le_trans (List.length_filterMap_le _ _) ?_
     unfold cV
     rw [List.length_map]
     have hf:=dy f0 (ce f0 l0) ((aN ks).take i)
     rw [List.length_take,Nat.min_eq_left (Nat.le_of_lt hil)]at hf
     have hm:=Nat.mul_le_mul_right i hn4
     omega
    have hnm:(eX (cV (tel kvs) (b9 k f0 (ce f0 l0)))).length<=400:=Nat.le_trans (List.length_filterMap_le _ _) (by rw [hrl];omega)
    refine⟨lv,D2,_,_,rfl,rfl,e35,e5,by rw [List.length_map,List.length_map];exact Nat.le_trans (show _<=100000 by omega) (by decide),?_⟩
    have t6:TeA f la tb kvs (upd H5 lv (.lst (ns.map V.int++(eX (cV (tel kvs) (b9 k f0 (ce f0 l0)))).map V.int))) rs4:=by
     obtain⟨t,ht,a⟩:=t5
     refine⟨t.keep λb φ e=>by rw [ah λz=>by rw [z,e35]at e;cases e];exact e,by rw [ah λz=>by rw [z,e35]at ht;cases ht];exact ht,a.off (b:=lv) nvl (λxs z=>by rw [e35]at z;cases z) λb' o e n=>by rw [ah n];exact e⟩
    refine⟨_,_,ns++eX (cV (tel kvs) (b9 k f0 (ce f0 l0))),rs4,rfl,λb o e nb=>?_,t6,by rw [aj,List.map_append],rfl,?_,?_⟩
    ·rw [ah (ai e nv)]
     exact g5 _ _ (o4 _ _ (o3 _ _ e nb) nb)
    ·rw [p6,p4,et,List.flatMap_append,List.append_assoc]
     congr 2
     exact(List.append_nil _).symm
    ·rw [p5,<- vL,et,List.flatMap_append]
     congr 1
     unfold cV
     rw [List.map_append]
     congr 2
     exact(List.append_nil _).symm
   ·obtain⟨v3,v4,ns,rs3,rfl,o3,t3,e3,p3,p4,p5⟩:=hh
    rw [List.length_map,List.take_length]at p4 p5
    have nxl:x≠la:=λz=>by obtain⟨xs,e⟩:=hT.lst;rw [<- z,h1]at e;cases e
    obtain⟨_,_,a3⟩:=t3
    dsimp only
    refine aD ?_
    refine⟨_,rfl,x,c.gth,dx,_,_,rfl,o3 _ _ h1 nxl,T.cl,T.a_word,rfl,_,rfl,w,lv,ns,rfl,e3,?_⟩
    rw [p5]
    exact q rs3 H3 o3 a3 p4
  | _=>cases hk
noncomputable def zR (c:Cs) (n:Nat):Sp:=λvs H Q _=>∃(x f:Addr) (l:Lf),vs=[.ref x,.ref f]/\lfK l=n/\lfK l < 3/\PlI vS (λ_=>sC) c l x f H Q
theorem xp:FnScope ["self", "told"] ["self", "told"] (aq pA):=‹2›
theorem jE {f:Addr}{fd:FuncData} (F:Fun K "read" "Question.read" pA f fd){c:Cs}{nn:Nat} (VP:∀C sp,VPl c C sp->MV P w K mg base CX0 "plain" 4 ["self", "told"] sp C):FnOk P w K mg base CX0 5 f fd ["self", "told"] (zR c nn):=by
 refine F.ok (k:=4) xp (λvs H Q E h=>?_) (λcdv A outer s H vs Q E hr h=>?_)
 ·obtain⟨x,f,l,rfl,_⟩:=h
  rfl
 ·obtain⟨x,f,l,rfl,hk,h3,⟨la,tb,kvs,rs,hx,ok,hT,tab,hl,q⟩⟩:=h
  have hu:=aL hr
  refine⟨_,(ao (ay (jA VP (pv 0) (hr.mono (by decide)) av (aa (pv 1) ae)))),?_⟩
  obtain⟨dx,ln,h1,h2⟩:=id hx
  refine aD ?_
  exact⟨_,rfl,x,lfC c l,dx,_,rR c (lfK l),rfl,h1,.mk l h3,vR ‹0›,_,rfl,x,f,l,rfl,rfl,la,tb,kvs,rs,hx,ok,hT,tab,hl,q⟩
noncomputable abbrev pz:Stmt:=top 55
def kF (kvs:List (List Key × V)):Prop:=∀k v,valV kvs k=some v->kH v
theorem kF.ok {kvs:List (List Key × V)} (h:kF kvs):zB kvs:=λk d=>by
 unfold tel
 cases e:valV kvs [.inr k,.inl d] with
 | none=>exact .inl rfl
 | some v=>exact h _ v e
theorem kF.put {kvs:List (List Key × V)} (h:kF kvs){v:V} (hv:kH v) (k:List Key):kF (gH kvs k v):=λj u e=>by
 rw [tE]at e
 by_cases z:j=k
 ·rw [if_pos z]at e;cases e;exact hv
 ·rw [if_neg z]at e;exact h j u e
inductive TbI (s ln t:Addr) (H:Hp) (Q:VK):Prop
 | mk (ss:List Str) (lo wd:Int) (hs:SAt H s) (el:H ln=some (.lst (ss.map V.str))) (hss:Nm2 ss) (nls:ln≠s) (et:H t=some (.tup [.int lo,.int wd])) (nts:t≠s) (h0:0<=lo) (h1:1<=wd) (h2:lo+wd<=400) (q:∀(p:Addr) (kvs:List (List Key × V)) (H':Hp),H p=none->Off s H H'->SAt H' s->H' p=some (.dT kvs)->kF kvs->kvs.length<=10000->Q (.ref p) H'):TbI s ln t H Q
noncomputable def qG:Sp:=λvs H Q _=>∃(s ln t:Addr),vs=[.ref s,.ref ln,.ref t]/\TbI s ln t H Q
inductive TaI (H:Hp) (s ln t p:Addr) (i:Nat) (σ:St) (H2:Hp):Prop
 | mk (kvs:List (List Key × V)) (v4 v5 v6 v7 v8 v9:Option V) (h1:σ=[some (.ref s),some (.ref ln),some (.ref t),some (.ref p),v4,v5,v6,v7,v8,v9]) (h2:Off s H H2) (h3:SAt H2 s) (h4:H2 p=some (.dT kvs)) (h5:kF kvs) (h6:kvs.length<=400 * i):TaI H s ln t p i σ H2
inductive TdI (H:Hp) (s ln t p:Addr) (m:Nat) (ki:V) (nm:Str) (f0 l0:Int) (am:V) (i:Nat) (σ:St) (H2:Hp):Prop
 | mk (kvs:List (List Key × V)) (v9:Option V) (h1:σ=[some (.ref s),some (.ref ln),some (.ref t),some (.ref p),some ki,some (.str nm),some (.int f0),some (.int l0),some am,v9]) (h2:Off s H H2) (h3:SAt H2 s) (h4:H2 p=some (.dT kvs)) (h5:kF kvs) (h6:kvs.length<=m+i):TdI H s ln t p m ki nm f0 l0 am i σ H2
theorem dN:FnScope ["_law_state", "_law_names_here", "_law_window_here", "_law_table_here", "_law_k", "_law_name", "_law_first", "_law_last", "_law_amount_here", "_law_day"] ["_law_state", "_law_names_here", "_law_window_here"] (aq pz):=‹2›
theorem vp {f f1 f2 f3:Addr}{fd:FuncData} (F:Fun K "_law_table" "_law_table" pz f fd) (N:Free mg){fd1:FuncData} (CP:Cal P w K mg base "_law_pull" 2 ["_law_state", "_law_many"] eE f1 fd1){fd2:FuncData} (CD:Cal P w K mg base "_law_days" 3 ["_law_state", "_law_window_here"] pf f2 fd2){fd3:FuncData} (CA:Cal P w K mg base "_law_amount" 3 ["_law_state"] jp f3 fd3):FnOk P w K mg base CX0 4 f fd ["_law_state", "_law_names_here", "_law_window_here"] qG:=by
 refine F.ok (k:=3) dN (λvs H Q E h=>?_) (λcdv A outer s H vs Q E hr h=>?_)
 ·obtain⟨s,ln,t,rfl,_⟩:=h
  rfl
 ·obtain⟨s,ln,t,rfl,⟨ss,lo,wd,hs,el,hss,nls,et,nts,h0,h1,h2,q⟩⟩:=h
  have hu:=aL hr
  refine⟨_,(af (aE (i:=3) dN.nd rfl (Or.inl rfl) vf)
   (af (eJ PassesOwn.never rfl (dt rfl N.range (aa (aw CP.ok (hr.mono (by decide)) rfl CP.nm CP.kp CP.bd .nil av (aa (pv 0) (aa au ae))) ae)) (bC (i:=4) dN.nd rfl (Or.inl rfl))
   (@af _ _ _ _ _ (@aE (i:=5) _ _ _ _ _ _ dN.nd rfl (Or.inl rfl) (@bn _ _ _ _ _ _ _ br (pv 1) (aw CP.ok (hr.mono (by decide)) rfl CP.nm CP.kp CP.bd .nil av (@aa _ _ _ _ _ (pv 0) (@aa _ _ _ _ _ (@bn _ _ _ _ _ _ _ br (@aR _ _ _ _ (@aa _ _ _ _ _ (aG aO (by rfl) N.len PySem.boot_len (@aa _ _ _ _ _ (pv 1) ae rfl)) (@aa _ _ _ _ _ (aG (iy rfl) (by rfl) N.min PyProof.Rows.Boot.«min» (@aa _ _ _ _ _ au (@aa _ _ _ _ _ (aG aO (by rfl) N.len PySem.boot_len (@aa _ _ _ _ _ (pv 1) ae rfl)) ae rfl) rfl)) ae rfl) rfl)) (aw CP.ok (hr.mono (by decide)) rfl CP.nm CP.kp CP.bd .nil av (@aa _ _ _ _ _ (pv 0) (@aa _ _ _ _ _ au ae rfl) rfl)) (λ_ _=>rfl)) ae rfl) rfl)) (λ_ _=>rfl)) (by rfl) (by first | exact .inl rfl | exact .inr rfl))
   (af (ij (aw CD.ok (hr.mono (by decide)) rfl CD.nm CD.kp CD.bd .nil av (aa (pv 0) (aa (pv 2) ae))) (mi rfl (cx (bC (i:=6) dN.nd rfl (Or.inl rfl)) (cx (bC (i:=7) dN.nd rfl (Or.inl rfl)) iW))))
   (@af _ _ _ _ _ (@aE (i:=8) _ _ _ _ _ _ dN.nd rfl (Or.inl rfl) (@bn _ _ _ _ _ _ _ br (@aR _ _ _ _ (@aa _ _ _ _ _ (aw CA.ok (hr.mono (by decide)) rfl CA.nm CA.kp CA.bd .nil av (@aa _ _ _ _ _ (pv 0) ae rfl)) (@aa _ _ _ _ _ gi ae rfl) rfl)) (aQ lB (by rfl) N.int PyProof.Rows.Boot.«int» (@aa _ _ _ _ _ (ck bK (aw CP.ok (hr.mono (by decide)) rfl CP.nm CP.kp CP.bd .nil av (@aa _ _ _ _ _ (pv 0) (@aa _ _ _ _ _ au ae rfl) rfl)) au (aS _)) ae rfl)) (λ_ _=>rfl)) (by rfl) (by first | exact .inl rfl | exact .inr rfl))
   (ao (eJ PassesOwn.never rfl (im rfl N.range (aa (pv 6) (aa (b8 bV (pv 7) au) ae))) (bC (i:=9) dN.nd rfl (Or.inl rfl))
   (ao (xK hu (pv 3) (bN (aa (pv 5) (aa (pv 9) ae))) (pv 8) rfl))))))))
   (ao (ay (pv 3))))),?_⟩
  have hsl:(ss.length:Int)=8\/(ss.length:Int)=2:=by rcases hss.1 with z | z <;> omega
  refine ag (aC λp np=>?_)
  walk_at "d"
  obtain⟨g1,e1⟩:=laid (o:=.dT []) np
  have hs1:=hs.keep g1
  have nps:p≠s:=λz=>by obtain⟨xs,e⟩:=hs.lst;rw [z,e]at np;cases np
  generalize upd H p _=H1 at g1 e1 hs1 ⊢
  refine ag ⟨_,rfl,s,12,rfl,hs1,by decide,by decide,λr H2 r0 r1 o2 hs2=>⟨_,rfl,by omega,by omega,eg (n:=r.toNat) (TaI H s ln t p) ⟨[],none,none,none,none,none,none,rfl,(Off.grow g1).trans o2,hs2,o2 _ _ e1 nps,(λk v e=>by cases e),Nat.zero_le _⟩ (λi σ H3 hi hh=>?_) λσ H3 hh=>?_⟩⟩
  ·obtain⟨kvs,v4,v5,v6,v7,v8,v9,rfl,o3,hs3,ep3,tv3,hl3⟩:=hh
   walk_at "d"
   have okn:∀{H':Hp},Off s H H'->H' ln=some (.lst (ss.map V.str)):=λo=>o _ _ el nls
   refine ag (aC ⟨_,rfl,_,rfl,_,rfl,ln,_,rfl,.inl (SqL.of (okn o3)),_,rfl,ln,_,rfl,.inl (SqL.of (okn o3)),_,_,rfl,by show 2<=sizeLine;decide,λl2 nl2=>?_⟩)
   rw [List.length_map]
   obtain⟨mm,emm,mm1,mm2⟩:∃mm:Int,mm=(if (ss.length:Int) < 2 then (ss.length:Int) else 2)/\1<=mm/\mm<=ss.length:=⟨_,rfl,by split <;> omega,by split <;> omega⟩
   rw [<- emm]
   obtain⟨g4,e4⟩:=laid (o:=.lst [V.int (ss.length:Int),V.int mm]) nl2
   have hs4:=hs3.keep g4
   have n2s:l2≠s:=λz=>by obtain⟨xs,e⟩:=hs3.lst;rw [z,e]at nl2;cases nl2
   have o4:=o3.trans (Off.grow g4)
   have ep4:=g4 _ _ ep3
   generalize upd H3 l2 _=H4 at g4 e4 hs4 o4 ep4 ⊢
   refine⟨_,rfl,s,2,rfl,hs4,by decide,by decide,λn5 H5 n50 n51 p5 hs5=>?_⟩
   have o5:=o4.trans p5
   obtain⟨m6,em6,hm1,hm2⟩:∃m6:Int,atI [V.int (ss.length:Int),V.int mm] n5=some (.int m6)/\1<=m6/\m6<=ss.length:=by
    rcases (show n5=0\/n5=1 by omega) with rfl | rfl
    ·exact⟨_,rfl,by omega,by omega⟩
    ·exact⟨_,rfl,by omega,by omega⟩
   refine⟨l2,_,_,_,rfl,rfl,SqL.of (p5 _ _ e4 n2s),em6,s,m6,rfl,hs5,by omega,by omega,λn6 H6 n60 n61 p6 hs6=>?_⟩
   have o6:=o5.trans p6
   obtain⟨k,ek,hk,hkm⟩:=vO hss n60 ‹1›
   refine⟨ln,_,_,_,rfl,rfl,SqL.of (okn o6),ek,?_⟩
   walk_at "d"
   refine ag (aC ⟨_,rfl,_,rfl,s,t,lo,wd,rfl,hs6,o6 _ _ et nts,nts,h0,h1,h2,λu f0 l0 H7 p7 hs7 eu d1 d2 d3=>?_⟩)
   refine⟨u,_,rfl,SqT.of eu,rfl,_,_,rfl,_,_,rfl,rfl,?_⟩
   walk_at "d"
   have o7:=o6.trans p7
   refine ag (aC ⟨_,rfl,s,rfl,hs7,λz H8 p8 hs8 z0 z1=>⟨by show 2<=sizeLine;decide,λl3 nl3=>?_⟩⟩)
   have o8:=o7.trans p8
   obtain⟨g9,e9⟩:=laid (o:=.lst [V.int z,V.non]) nl3
   have hs9:=hs8.keep g9
   have n3s:l3≠s:=λz=>by obtain⟨xs,e⟩:=hs8.lst;rw [z,e]at nl3;cases nl3
   have o9:=o8.trans (Off.grow g9)
   have ep9:(upd H8 l3 (.lst [V.int z,V.non])) p=some (.dT kvs):=g9 _ _ (p8 _ _ (p7 _ _ (p6 _ _ (p5 _ _ ep4 nps) nps) nps) nps)
   change jg _ _ _ _ _ (upd H8 l3 (.lst [V.int z,V.non])) _
   generalize upd H8 l3 _=H9 at g9 e9 hs9 o9 ep9 ⊢
   refine⟨_,rfl,s,5,rfl,hs9,by decide,by decide,λn9 H10 n90 n91 p10 hs10=>?_⟩
   have o10:=o9.trans p10
   obtain⟨am,eam,ham⟩:∃am,atI [V.int z,V.non] (if decide (V.int n9=V.int 0)=true then 1 else 0)=some am/\kH am:=by
    by_cases z9:decide (V.int n9=V.int 0)=true
    ·rw [if_pos z9];exact⟨_,rfl,.inl rfl⟩
    ·rw [if_neg z9];exact⟨_,rfl,.inr ⟨_,rfl⟩⟩
   have ep10:=p10 _ _ ep9 nps
   refine⟨rfl,.inr ⟨_,rfl,l3,_,_,_,rfl,rfl,SqL.of (p10 _ _ e9 n3s),eam,?_⟩⟩
   walk_at "d"
   have hn4:ce f0 l0<=400:=by unfold ce;omega
   refine⟨_,rfl,_,rfl,_,_,rfl,rfl,f0,l0+1,rfl,⟨by omega,by omega,by omega,by omega⟩,eg (n:=ce f0 l0) (TdI H s ln t p kvs.length (.int (0+i)) k f0 l0 am) ⟨kvs,_,rfl,o10,hs10,ep10,tv3,Nat.le_refl _⟩ (λj σ H11 hj hh=>?_) λσ H11 hh=>?_⟩
   ·obtain⟨kv2,v9',rfl,o11,hs11,ep11,tv11,hl11⟩:=hh
    walk_at "d"
    refine⟨_,rfl,_,rfl,_,rfl,_,rfl,by show 2<=sizeLine;decide,λtq ntq=>?_⟩
    obtain⟨g12,e12⟩:=laid (o:=.tup [V.str k,V.int (f0+j)]) ntq
    have ep12:=g12 _ _ ep11
    have hs12:=hs11.keep g12
    have o12:=o11.trans (Off.grow g12)
    generalize upd H11 tq _=H12 at g12 e12 ep12 hs12 o12 ⊢
    refine⟨p,_,rfl,.inr ⟨kv2,[.inr k,.inl (f0+j)],tq,ep12,rfl,e12,Nat.lt_of_le_of_lt (show _<=100000 by have:=hi;omega) (by decide),rfl⟩,gH kv2 [.inr k,.inl (f0+j)] am,_,rfl,λb o e nb=>?_,hs12.off nps (λb o e nb=>by rw [ah nb];exact e),aj,tv11.put ham _,?_⟩
    ·rw [ah (ai e np)];exact o12 _ _ e nb
    ·have:=fm kv2 [.inr k,.inl (f0+j)] am;omega
   ·obtain⟨kv2,v9',rfl,o11,hs11,ep11,tv11,hl11⟩:=hh
    exact⟨kv2,_,_,_,_,_,_,rfl,o11,hs11,ep11,tv11,by omega⟩
  ·obtain⟨kvs,v4,v5,v6,v7,v8,v9,rfl,o3,hs3,ep3,tv3,hl3⟩:=hh
   exact aD ⟨_,rfl,q p kvs H3 np o3 hs3 ep3 tv3 ‹1›⟩
end Mine
namespace L2
open PySem PySem.Spec PyProof.Rows
inductive rNilL (neg:Bool) (x:V) (y:V) (H:Hp) (Q:VK):Prop
 | mk (a b xs) (h1:x=.ref a) (h2:y=.ref b) (h3:H a=some (.lst xs)) (h4:H b=some (.lst [])) (h6:Q (.bl (if neg=true then !xs.isEmpty else xs.isEmpty)) H):rNilL neg x y H Q
section
variable {X:Cx}
theorem sh (hu:X.A.units+64 < cLine):OpR X (compareOp .Eq) (rNilL false):=by
 intro pins s σ H x y v u Q I r1 r2 h
 obtain⟨a,b,xs,rfl,rfl,ea,eb,q⟩:=h
 cases r1;cases r2
 obtain⟨us,v1,o1⟩:=zk I ea
 obtain⟨vs,v2,o2⟩:=zk I eb
 cases v2
 cases xs with
 | nil=>
  cases v1
  refine SeqAt.eq_listAt (e:=λ_=>true) o1 o2 rfl ‹1› (λj h1 h2=>absurd h1 (Nat.not_lt_zero _)) ?_
  rw [kb]
  exact⟨.bl true,H,I,rfl,q⟩
 | cons x r=>
  refine SeqAt.eq_list_lengthsAt o1 o2 ?_ ‹1› ⟨.bl false,H,I,rfl,q⟩
  rw [List.size_toArray,List.size_toArray,<- Paired.length v1]
  rfl
end
end L2
namespace Mine
open PySem L2
variable {P:Program}{w:World}{K:W.Frag}{mg:Str->Option Value}{base:Heap}
noncomputable def BU:Lf->List Str
 | .gth _ ks _ _=>ks
 | _=>[]
noncomputable def gW (ks:List Str):V->V
 | .int i=>.str (si i)
 | .ref _=>.str (jc ks)
 | v=>v
theorem x9 (p:Addr) (l:Lf):(lfV p l).tail.map (gW (BU l))=(gy l).map V.str:=by cases l <;> rfl
theorem tN (p:Addr) (l:Lf):(lfV p l).tail.length<=4:=by cases l <;> exact Nat.le_of_ble_eq_true rfl
theorem kI.bf {f l:Int} (h:kI f l):Big f/\Big l:=by
 obtain⟨h1,h2,h3⟩:=h
 unfold Big
 omega
theorem lf_item {p:Addr}{l:Lf}{x:V} (ok:dL l) (h:x∈(lfV p l).tail):(∃z,x=.str z)\/(∃i,x=.int i/\Big i)\/(x=.ref p/\∃w ks f0 l0,l=.gth w ks f0 l0):=by
 have cs:∀{z:Str},x=.str z->(∃z,x=.str z)\/(∃i,x=.int i/\Big i)\/(x=.ref p/\∃w ks f0 l0,l=.gth w ks f0 l0):=λe=>.inl ⟨_,e⟩
 have ci:∀{z:Int},x=.int z->Big z->(∃z,x=.str z)\/(∃i,x=.int i/\Big i)\/(x=.ref p/\∃w ks f0 l0,l=.gth w ks f0 l0):=λe b=>.inr (.inl ⟨_,e,b⟩)
 cases l with
 | num z=>
  exact ci (List.mem_singleton.mp (show x∈[V.int z] from h)) ok
 | val k d=>
  rcases List.mem_cons.mp (show x∈[V.str k,V.int d] from h) with e | h
  ·exact cs e
  ·exact ci (List.mem_singleton.mp h) ⟨by have:=ok.2.1;omega,by have:=ok.2.2;omega⟩
 | gth w ks f0 l0=>
  rcases List.mem_cons.mp (show x∈[V.ref p,V.int f0,V.int l0] from h) with e | h
  ·exact .inr (.inr ⟨e,w,ks,f0,l0,rfl⟩)
  ·rcases List.mem_cons.mp h with e | h
   ·exact ci e ok.2.2.bf.1
   ·exact ci (List.mem_singleton.mp h) ok.2.2.bf.2
 | snc k b0 f0 l0=>
  rcases List.mem_cons.mp (show x∈[V.str k,V.int b0,V.int f0,V.int l0] from h) with e | h
  ·exact cs e
  ·rcases List.mem_cons.mp h with e | h
   ·exact ci e ok.2.1
   ·rcases List.mem_cons.mp h with e | h
    ·exact ci e ok.2.2.bf.1
    ·exact ci (List.mem_singleton.mp h) ok.2.2.bf.2
 | prt k k2 f0 l0=>
  rcases List.mem_cons.mp (show x∈[V.str k,V.str k2,V.int f0,V.int l0] from h) with e | h
  ·exact cs e
  ·rcases List.mem_cons.mp h with e | h
   ·exact cs e
   ·rcases List.mem_cons.mp h with e | h
    ·exact ci e ok.2.2.bf.1
    ·exact ci (List.mem_singleton.mp h) ok.2.2.bf.2
 | chg r0 k f0 l0=>
  rcases List.mem_cons.mp (show x∈[V.int r0,V.str k,V.int f0,V.int l0] from h) with e | h
  ·exact ci e ⟨by have:=ok.1.1;omega,by have:=ok.1.2;omega⟩
  ·rcases List.mem_cons.mp h with e | h
   ·exact cs e
   ·rcases List.mem_cons.mp h with e | h
    ·exact ci e ok.2.2.bf.1
    ·exact ci (List.mem_singleton.mp h) ok.2.2.bf.2
theorem wN {k:Nat} (h:k<=100000):k<=sizeLine:=Nat.le_trans h (by decide)
theorem zw (x:V) (r:List V):atI (x::r) 0=some x:=fM (show (x::r)[0]?=some x from rfl)
theorem wy (r:List V):HT.sIx (r.length+1) 0 (some 1)=1:=by
 rw [show (some (1:Int))=some ((1:Nat):Int) from rfl,HT.sIx_nat]
 exact Nat.min_eq_left ‹1›
theorem Bd (x:V) (r:List V):dH (x::r) (some 1) none=r:=by
 unfold dH
 rw [List.length_cons,wy]
 show (r.take (r.length+1 - 1))=r
 rw [Nat.add_sub_cancel,List.take_length]
theorem wH {K:W.Frag}{la:Addr}{xs:List V}{sub:List Nat}{tt:TT}{te:TE}{σ:St}{Q:VK}{H:Hp} (p:V->Bool) (g:V->V) (hn:xs.length < 10000) (ha:H la=some (.lst xs))
  (htt:∀(v:V) (H2:Hp) (R:Bool->Hp->Prop),v∈xs->bh H H2->R (p v) H2->tt (some v::bJ sub σ) H2 R) (hte:∀(v:V) (H2:Hp) (R:VK),v∈xs->p v=true->bh H H2->R (g v) H2->te (some v::bJ sub σ) H2 R)
  (hq:∀(D:Addr),H D=none->Q (.ref D) (upd H D (.lst ((xs.filter p).map g)))):fW (Itl K la) sub tt te σ Q H:=by
 intro D nD
 have nl:la≠D:=ai ha nD
 refine eA (K:=K) (a:=la) (xs:=xs) (sub:=sub) (tt:=tt) (te:=te) (Q:=Q) (σ:=σ) (λi ys H2=>ys=((xs.take i).filter p).map g/\H2=upd H D (.lst ys)) ⟨by rw [List.take_zero];rfl,rfl⟩ (λi ys H2 _ hh=>?_) (λi x ys H2 hi hh=>?_) λys H2 hh=>?_
 ·obtain⟨_,rfl⟩:=hh
  exact SqL.of (by rw [ah nl];exact ha)
 ·obtain⟨rfl,rfl⟩:=hh
  have lf:=List.length_filter_le p (xs.take i)
  rw [List.length_take]at lf
  have hx:=List.mem_of_getElem? hi
  refine htt x _ _ hx (laid nD).1 ?_
  cases hp:p x with
  | false=>
   refine aZ ⟨?_,rfl⟩
   rw [List.take_add_one,hi,List.filter_append]
   simp [hp]
  | true=>
   refine bB (hte x _ _ hx hp (laid nD).1 ⟨aj,?_,?_,bv⟩)
   ·rw [List.length_map];exact Nat.lt_of_lt_of_le (show _ < 10000 by omega) (by decide)
   ·rw [List.take_add_one,hi,List.filter_append]
    simp [hp]
 ·obtain⟨rfl,rfl⟩:=hh
  rw [List.take_length]
  exact hq D nD
theorem wI {k:Str}{lo:Int}{n:Nat}{sub:List Nat}{te:TE}{σ:St}{Q:VK}{H:Hp} (hn:n<=1000)
  (hte:∀(d:Int) (H2:Hp) (R:VK),(∀p,H2 p=none->R (.ref p) (upd H2 p (.tup [.str k,.int d])))->te (some (.int d)::bJ sub σ) H2 R)
  (hq:∀(D:Addr) (H':Hp) (rs:List RZ),H D=none->bh H H'->Askd H' D rs->prs rs=b9 k lo n->Q (.ref D) H'):fW (Itr lo n) sub (λ_ H Q=>Q true H) te σ Q H:=by
 intro D nD
 refine eT (lo:=lo) (n:=n) (sub:=sub) (tt:=λ_ H Q=>Q true H) (te:=te) (Q:=Q) (σ:=σ) (λi ys H2=>∃rs:List RZ,ys=rs.map (λr=>V.ref r.2)/\bh H H2/\Askd H2 D rs/\prs rs=b9 k lo i) ⟨[],rfl,(laid nD).1,⟨aj,λr hr=>by cases hr⟩,rfl⟩ (λi ys H2 hi hh=>?_) λys H2 hh=>?_
 ·obtain⟨rs,rfl,g2,⟨a1,a2⟩,p2⟩:=hh
  have hz:rs.length=i:=by
   have:=congrArg List.length p2
   unfold prs b9 at this
   rw [List.length_map,List.length_map,List.length_range]at this
   exact this
  refine bB (hte _ _ _ λp np=>?_)
  have npD:D≠p:=ai a1 np
  have ep:b9 k lo (i+1)=b9 k lo i++[(k,lo+i)]:=by unfold b9;rw [List.range_succ,List.map_append];rfl
  refine⟨by rw [ah npD];exact a1,by rw [List.length_map];exact bj ‹1›,rs++[((k,lo+i),p)],by rw [List.map_append];rfl,λb o e=>?_,⟨by rw [aj,List.map_append];rfl,λr hr=>?_⟩,?_⟩
  ·rw [ah (ai e nD),ah (ai (g2 _ _ e) np)];exact g2 _ _ e
  ·rcases List.mem_append.mp hr with hr | hr
   ·have e:=a2 r hr
    rw [ah (cR e a1 (λz=>nomatch z)),ah (ai e np)];exact e
   ·rw [List.mem_singleton.mp hr]
    show upd (upd H2 p _) D _ p=_
    rw [ah (Ne.symm npD),aj]
    rfl
  ·unfold prs at p2 ⊢
   rw [ep,<- p2,List.map_append]
   rfl
 ·obtain⟨rs,rfl,g2,a2,p2⟩:=hh
  exact hq D H2 rs nD g2 a2 p2
noncomputable abbrev ux:Stmt:=top 56
theorem B1 {w:Str}{ns:List Int} (h1:w≠‹"sum"›) (h2:w≠‹"count"›):gat w ns=if w=‹"least"› then cA ns else cB ns:=by
 unfold gat
 rw [if_neg h1,if_neg h2]
theorem oQ {ns:List Int}{m:Int} (h1:m∈ns) (h2:∀x∈ns,m<=x):cA ns=.int m:=by
 rcases best_min_is ns with⟨rfl,_⟩ | ⟨m',e,h3,h4⟩
 ·cases h1
 ·rw [e]
  have a:=h4 m h1
  have b:=h2 m' h3
  congr 1
  omega
theorem oR {ns:List Int}{m:Int} (h1:m∈ns) (h2:∀x∈ns,x<=m):cB ns=.int m:=by
 rcases best_max_is ns with⟨rfl,_⟩ | ⟨m',e,h3,h4⟩
 ·cases h1
 ·rw [e]
  have a:=h4 m h1
  have b:=h2 m' h3
  congr 1
  omega
inductive OvI (w:Str) (ns:List Int) (lv:Addr) (H:Hp) (Q:VK):Prop
 | mk (hl:H lv=some (.lst (ns.map V.int))) (q:∀H',bh H H'->Q (gat w ns) H'):OvI w ns lv H Q
noncomputable def tV:Sp:=λvs H Q _=>∃(w:Str) (lv:Addr) (ns:List Int),vs=[.str w,.ref lv]/\OvI w ns lv H Q
theorem zW:FnScope ["_law_word", "_law_amounts"] ["_law_word", "_law_amounts"] (aq ux):=‹2›
theorem xR {f:Addr}{fd:FuncData} (F:Fun K "_law_over" "_law_over" ux f fd) (N:Free mg):FnOk P w K mg base CX0 1 f fd ["_law_word", "_law_amounts"] tV:=by
 refine F.ok (k:=0) zW (λvs H Q E h=>?_) (λcdv A outer s H vs Q E hr h=>?_)
 ·obtain⟨w,lv,ns,rfl,_⟩:=h
  rfl
 ·obtain⟨w,lv,ns,rfl,⟨hl,q⟩⟩:=h
  have hu:=aL hr
  refine⟨_,(af (bt (aK bK (pv 0) aB (aS _)) (ao (ay (aG (lz rfl) (by rfl) N.sum PyProof.Rows.Boot.«sum» (aa (pv 1) ae)))) aI)
   (af (bt (aK bK (pv 0) aB (aS _)) (ao (ay (aG aO (by rfl) N.len PySem.boot_len (aa (pv 1) ae)))) aI)
   (af (bt (aK (sh hr.units) (pv 1) (aR ae) (aS _)) (ao (ay gi)) aI)
   (af (bt (aK bK (pv 0) aB (aS _)) (ao (ay (aG (sT rfl) (by rfl) N.min PyProof.Rows.Boot.«min» (aa (pv 1) ae)))) aI)
   (ao (ay (aG (lA rfl) (by rfl) N.max PyProof.Rows.Boot.«max» (aa (pv 1) ae)))))))),?_⟩
  have g0:bh H H:=λ_ _ e=>e
  refine ag (aH ⟨_,rfl,rfl,_,rfl,?_⟩)
  by_cases h1:w=‹"sum"›
  ·rw [decide_eq_true (show V.str w=V.str ‹"sum"› by rw [h1])]
   refine bB (aD ⟨_,rfl,lv,ns,rfl,SqL.of hl,?_⟩)
   have:=q H g0
   unfold gat at this
   rw [if_pos h1]at this
   exact this
  rw [decide_eq_false (λz=>h1 (V.str.inj z))]
  refine aZ (aA ?_)
  dsimp only
  refine ag (aH ⟨_,rfl,rfl,_,rfl,?_⟩)
  by_cases h2:w=‹"count"›
  ·rw [decide_eq_true (show V.str w=V.str ‹"count"› by rw [h2])]
   refine bB (aD ⟨_,rfl,lv,_,rfl,.inl (SqL.of hl),?_⟩)
   have:=q H g0
   unfold gat at this
   rw [if_neg h1,if_pos h2]at this
   rw [List.length_map]
   exact this
  rw [decide_eq_false (λz=>h2 (V.str.inj z))]
  refine aZ (aA ?_)
  dsimp only
  rw [B1 h1 h2]at q
  refine ag (aH ⟨_,rfl,by show 0<=sizeLine;decide,λl0 nl0=>?_⟩)
  obtain⟨g1,e1⟩:=laid (o:=.lst []) nl0
  have hl1:=g1 _ _ hl
  generalize upd H l0 _=H1 at g1 e1 hl1 ⊢
  refine⟨lv,l0,_,rfl,rfl,hl1,e1,_,rfl,?_⟩
  rw [if_neg Bool.false_ne_true]
  cases ns with
  | nil=>
   refine bB (aD ?_)
   have:=q H1 g1
   rw [show cA []=V.non from rfl,show cB []=V.non from rfl,ite_self]at this
   exact this
  | cons n0 nr=>
   refine aZ (aA ?_)
   dsimp only
   refine ag (aH ⟨_,rfl,rfl,_,rfl,?_⟩)
   by_cases h3:w=‹"least"›
   ·rw [decide_eq_true (show V.str w=V.str ‹"least"› by rw [h3])]
    refine bB (aD ⟨_,rfl,lv,n0::nr,rfl,SqL.of hl1,by simp,λm m1 m2=>?_⟩)
    have:=q H1 g1
    rw [if_pos h3,oQ m1 m2]at this
    exact this
   rw [decide_eq_false (λz=>h3 (V.str.inj z))]
   refine aZ (aA ?_)
   dsimp only
   refine aD ⟨_,rfl,lv,n0::nr,rfl,SqL.of hl1,by simp,λm m1 m2=>?_⟩
   have:=q H1 g1
   rw [if_neg h3,oR m1 m2]at this
   exact this
noncomputable abbrev uD:Stmt:=top 59
noncomputable def tY:Sp:=λvs H Q _=>∃(x y:V),vs=[x,y]/\kH x/\kH y/\Q (.bl (decide (x=y))) H
theorem zY:FnScope ["_law_found", "_law_due_here"] ["_law_found", "_law_due_here"] (aq uD):=‹2›
theorem xV {f:Addr}{fd:FuncData} (F:Fun K "_law_like" "_law_like" uD f fd) (N:Free mg):FnOk P w K mg base CX0 1 f fd ["_law_found", "_law_due_here"] tY:=by
 refine F.ok (k:=0) zY (λvs H Q E h=>?_) (λcdv A outer s H vs Q E hr h=>?_)
 ·obtain⟨x,y,rfl,_⟩:=h
  rfl
 ·obtain⟨x,y,rfl,hx,hy,q⟩:=h
  have hu:=aL hr
  refine⟨_,(af (bt (PW.pt (zc (mh (mn (pv 0))) (uX (mh (mn (pv 1)))))) (ao (ay (fj (pT (mn (pv 0))) (fi (pT (mn (pv 1))))))) aI)
   (ao (ay (fj (aG cH (by rfl) N.isinstance PyProof.Rows.Boot.«isinstance» (aa (pv 0) (aa (fF (v:=.ty "int") (by rfl) N.int PyProof.Rows.Boot.«int» rfl) ae))) (fj (Ax (aG cH (by rfl) N.isinstance PyProof.Rows.Boot.«isinstance» (aa (pv 0) (aa (fF (v:=.ty "bool") (by rfl) N.bool PyProof.Rows.Boot.«bool» rfl) ae)))) (fi (ck bK (pv 0) (pv 1) (aS _)))))))),?_⟩
  rcases hx with rfl | ⟨i,rfl⟩
  ·refine ag (aH ⟨_,rfl,_,rfl,?_⟩)
   refine bB (bB (aD ⟨_,rfl,_,rfl,bB ⟨_,rfl,?_⟩⟩))
   rw [show decide (y=V.non)=decide (V.non=y) from by simp [eq_comm]]
   exact q
  ·refine ag (aH ⟨_,rfl,_,rfl,?_⟩)
   rw [decide_eq_false (λz=>nomatch z)]
   refine aZ ?_
   rcases hy with rfl | ⟨j,rfl⟩
   ·refine⟨_,rfl,_,rfl,bB (aD ⟨_,rfl,_,rfl,?_⟩)⟩
    rw [decide_eq_false (λz=>nomatch z)]at q ⊢
    exact aZ q
   ·refine⟨_,rfl,_,rfl,?_⟩
    rw [decide_eq_false (λz=>nomatch z)]
    refine aZ (aA ?_)
    dsimp only
    exact aD ⟨_,rfl,_,"int", _,true,rfl,.int i,by rfl,_,rfl,bB ⟨_,rfl,_,"bool", _,false,rfl,.int i,by rfl,_,rfl,_,rfl,bB ⟨_,rfl,_,rfl,rfl,q⟩⟩⟩
noncomputable abbrev Aa:Stmt:=top 60
inductive TxI (l:Lf) (a:Addr) (H:Hp) (Q:VK):Prop
 | mk (ok:dL l) (h:LN l H a) (q:∀H',bh H H'->Q (.str (jn (aP l))) H'):TxI l a H Q
noncomputable def yP:Sp:=λvs H Q _=>∃(a:Addr) (l:Lf),vs=[.ref a]/\TxI l a H Q
theorem zh (p:Addr) (l:Lf):∃r,lfV p l=.str (bX l)::r/\r=(lfV p l).tail:=by cases l <;> exact⟨_,rfl,rfl⟩
theorem BF:FnScope ["_law_node"] ["_law_node"] (aq Aa):=‹2›
theorem AD {f:Addr}{fd:FuncData} (F:Fun K "_law_text" "_law_text" Aa f fd) (N:Free mg):FnOk P w K mg base CX0 1 f fd ["_law_node"] yP:=by
 refine F.ok (k:=0) BF (λvs H Q E h=>?_) (λcdv A outer s H vs Q E hr h=>?_)
 ·obtain⟨a,l,rfl,_⟩:=h
  rfl
 ·obtain⟨a,l,rfl,ok,hln,q⟩:=h
  have hu:=aL hr
  refine⟨_,(ao (ay (cK PySem.F.plainAttrs_str PySem.F.slot_str_join PySem.F.type_str_join gN aB (aa (b8 vn (aR (aa (bn cw (pv 0) au (λ_ _=>rfl)) ae)) (fR (bT rfl (Au (dX zS (pv 0) (fB au) fE)) rfl rfl (by show ∀p∈_,iB [] p;decide) (by decide) rfl (by show ([‹"_law_one"›]:List Str).Nodup;decide) .nil (λC fp s H=>df) (λC fp s H=>(jB (eG (aG (r:=rIs K) cH (by rfl) N.isinstance PyProof.Rows.Boot.«isinstance» (aa (pv 0) (aa (fF (v:=.ty "list") (by rfl) N.list PyProof.Rows.Boot.«list» rfl) ae)))) (Ay (K:=K) rfl PySem.F.plainAttrs_str PySem.F.slot_str_join PySem.F.type_str_join gN aB (aa (pv 0) ae)) (aQ sQ (by rfl) N.str PyProof.Rows.Boot.«str» (aa (pv 0) ae))))))) ae)))),?_⟩
  obtain⟨pk,ea,hk⟩:=hln
  obtain⟨r,ev,er⟩:=zh pk l
  have ea':=ea
  rw [ev]at ea'
  refine aD ⟨rfl,_,rfl,a,_,0,_,rfl,rfl,SqT.of ea',zw _ _,by show 1<=sizeLine;decide,λp1 np1=>?_⟩
  obtain⟨g2,e2⟩:=laid (o:=.lst [V.str (bX l)]) np1
  generalize upd H p1 _=H2 at g2 e2 ⊢
  refine de ⟨_,rfl,_,rfl,a,_,rfl,SqT.of (g2 _ _ ea'),(λz=>by rw [List.length_cons,wy]at z;exact absurd z.1 (by decide)),λt2 nt2=>?_⟩
  obtain⟨g3,e3⟩:=laid (o:=.tup (dH (.str (bX l)::r) (some 1) none)) nt2
  generalize upd H2 t2 _=H3 at g3 e3 ⊢
  have g13:=g2.trans g3
  have ec:dH (.str (bX l)::r) (some 1) none=(lfV pk l).tail:=by rw [er];exact Bd _ _
  rw [ec]at e3
  refine⟨t2,rfl,⟨_,SqT.of e3⟩,qq (g:=gW (BU l)) (Nat.lt_of_le_of_lt (tN pk l) (by decide)) e3 (λx H4 R hx g4 hR=>?_) λD nD=>?_⟩
  ·have g14:=g13.trans g4
   rcases lf_item ok hx with⟨z,rfl⟩ | ⟨i,rfl,hb⟩ | ⟨rfl,w',ks,f0,l0,rfl⟩
   ·exact⟨_,rfl,_,"list", _,false,rfl,.str z,by rfl,_,rfl,aZ ⟨_,rfl,.str z rfl hR⟩⟩
   ·exact⟨_,rfl,_,"list", _,false,rfl,.int i,by rfl,_,rfl,aZ ⟨_,rfl,.int i rfl (cm hb.1 hb.2) hR⟩⟩
   ·have ek:=g14 _ _ (show H pk=some (.lst (ks.map V.str)) from hk)
    obtain⟨hg,⟨k1,k8,_,hks⟩,_⟩:=id ok
    refine⟨_,rfl,_,"list", _,true,rfl,.lst ek,by rfl,_,rfl,bB ⟨rfl,_,rfl,_,pk,ks,rfl,rfl,ek,?_,hR⟩⟩
    have:=lM 8 ks λw hw=>(jH (hks w hw)).2.1
    rw [show ‹","›.length=1 from ‹0›]
    omega
  ·rw [x9]
   obtain⟨g4,e4⟩:=laid (o:=.lst ((gy l).map V.str)) nD
   refine⟨p1,D,_,_,rfl,rfl,g4 _ _ (g3 _ _ e2),e4,?_,λp3 np3=>?_⟩
   ·rw [List.length_map]
    have:(gy l).length<=5:=by
     have:=(iq l).2
     rw [tz l,List.length_cons]at this
     omega
    exact wN (show 1+_<=100000 by omega)
   obtain⟨g5,e5⟩:=laid (o:=.lst ((aP l).map V.str)) np3
   have ew:[V.str (bX l)]++(gy l).map V.str=(aP l).map V.str:=by rw [tz l];rfl
   rw [ew]
   refine⟨_,p3,aP l,rfl,rfl,e5,mF (λw hw=>Nat.le_trans (qZ ok w hw).hi (by decide)) (Nat.le_trans (iq l).2 (by decide)),q _ ((g13.trans g4).trans g5)⟩
noncomputable abbrev Ae:Stmt:=top 57
theorem ms:∀(n:Nat){ks:List Str},ks.length=n->ks.Nodup->aN ks=ks
 | 0,ks,h,_=>by rw [List.length_eq_zero_iff.mp h];rfl
 | n+1,ks,h,nd=>by
  obtain⟨xs,x,rfl⟩:∃xs x,ks=xs++[x]:=⟨ks.dropLast,ks.getLast (by intro z;rw [z]at h;cases h),(List.dropLast_concat_getLast _).symm⟩
  rw [List.length_append,List.length_singleton]at h
  obtain⟨n1,_,n3⟩:=List.nodup_append.mp nd
  rw [dY,ms n ‹1› n1,if_neg (λz=>n3 _ z x (List.mem_singleton.mpr rfl) rfl)]
theorem vK {vs:List V} (h:∀v∈vs,kH v):vs.filter (λv=>decide (v≠.non))=(eX vs).map V.int:=jG h
noncomputable def lL (kvs:List (List Key × V)) (H:Hp):V->V
 | .ref b=>match H b with
  | some (.tup [.str k,.int d])=>tel kvs k d
  | _=>.non
 | _=>.non
theorem lK {kvs:List (List Key × V)}{H:Hp}{r:RZ} (e:H r.2=some (.tup (nF r))):lL kvs H (.ref r.2)=tel kvs r.1.1 r.1.2:=by
 show (match H r.2 with
  | some (.tup [.str k,.int d])=>tel kvs k d
  | _=>.non)=_
 rw [e]
 rfl
inductive DuI (l:Lf) (a tb:Addr) (H:Hp) (Q:VK):Prop
 | mk (kvs:List (List Key × V)) (h:LN l H a) (ok:dL l) (h3:lfK l < 3) (ht:H tb=some (.dT kvs)) (tv:kF kvs) (q:∀(u ld:Addr) (rs:List RZ) (H':Hp),bh H H'->H u=none->H ld=none->H' u=some (.tup [vS (tel kvs) l,.ref ld])->Askd H' ld rs->prs rs=sC l->Q (.ref u) H'):DuI l a tb H Q
noncomputable def yR:Sp:=λvs H Q _=>∃(a tb:Addr) (l:Lf),vs=[.ref a,.ref tb]/\DuI l a tb H Q
inductive DeI (H:Hp) (a tb ld pk:Addr) (w:Str) (ks:List Str) (f0 l0:Int) (i:Nat) (σ:St) (H2:Hp):Prop
 | mk (v:Option V) (rs:List RZ) (h1:σ=[some (.ref a),some (.ref tb),some (.str w),some (.ref pk),some (.int f0),some (.int l0),some (.ref ld),v]) (h2:bh H H2) (h3:Askd H2 ld rs) (h4:prs rs=(ks.take i).flatMap λk=>b9 k f0 (ce f0 l0)):DeI H a tb ld pk w ks f0 l0 i σ H2
theorem jv:FnScope ["_law_node", "_law_table_here", "_law_word", "_law_names_here", "_law_first", "_law_last", "_law_days_here", "_law_name"] ["_law_node", "_law_table_here"] (aq Ae):=‹2›
theorem AH {f f1:Addr}{fd:FuncData} (F:Fun K "_law_due" "_law_due" Ae f fd) (N:Free mg){fd1:FuncData} (CO:Cal P w K mg base "_law_over" 1 ["_law_word", "_law_amounts"] tV f1 fd1):FnOk P w K mg base CX0 2 f fd ["_law_node", "_law_table_here"] yR:=by
 refine F.ok (k:=1) jv (λvs H Q E h=>?_) (λcdv A outer s H vs Q E hr h=>?_)
 ·obtain⟨a,tb,l,rfl,_⟩:=h
  rfl
 ·obtain⟨a,tb,l,rfl,⟨kvs,⟨pk,ea,hk⟩,ok,h3,ht,tv,q⟩⟩:=h
  have hu:=aL hr
  refine⟨_,(af (bt (aK bK (bn cw (pv 0) au (λ_ _=>rfl)) aB (aS _)) (ao (ay (bN (aa (bn cw (pv 0) au (λ_ _=>rfl)) (aa (aR ae) ae))))) aI)
   (af (bt (aK bK (bn cw (pv 0) au (λ_ _=>rfl)) aB (aS _)) (ao (ay (bN (aa (jC hu (pv 1) (bN (aa (bn cw (pv 0) au (λ_ _=>rfl)) (aa (bn cw (pv 0) au (λ_ _=>rfl)) ae))) ⟨rfl,rfl,rfl,rfl⟩) (aa (aR (aa (bN (aa (bn cw (pv 0) au (λ_ _=>rfl)) (aa (bn cw (pv 0) au (λ_ _=>rfl)) ae))) ae)) ae))))) aI)
   (af (ij (pv 0) (mi rfl (cx (bC (i:=2) jv.nd rfl (Or.inl rfl)) (cx (bC (i:=3) jv.nd rfl (Or.inl rfl)) (cx (bC (i:=4) jv.nd rfl (Or.inl rfl)) (cx (bC (i:=5) jv.nd rfl (Or.inl rfl)) iW))))))
   (af (aE (i:=6) jv.nd rfl (Or.inl rfl) (aR ae))
   (af (eJ PassesOwn.never rfl (dg (pv 3)) (bC (i:=7) jv.nd rfl (Or.inr rfl))
   (ao (aY (cK PySem.F.plainAttrs_list PySem.F.slot_list_extend PySem.F.type_list_extend fG (pv 6) (aa (fR (bT rfl (im rfl N.range (aa (pv 4) (aa (b8 bV (pv 5) au) ae))) rfl rfl (by show ∀p∈_,iB [‹"_law_name"›] p;decide) (by decide) rfl (by show ([‹"_law_day"›, ‹"_law_name"›]:List Str).Nodup;decide) (.cons (i:=7) rfl (.inr (.inl rfl)) (by show (some NameKind.cell)≠some NameKind.local;decide) (.inl rfl) rfl .nil) (λC fp s H=>df) (λC fp s H=>(bN (aa (pv 1) (aa (pv 0) ae)))))) ae)))))
   (ao (ay (bN (aa (aw CO.ok (hr.mono (by decide)) rfl CO.nm CO.kp CO.bd .nil av (aa (pv 2) (aa (fR (bT rfl (dg (pv 6)) rfl rfl (by show ∀p∈_,iB [‹"_law_table_here"›] p;decide) (by decide) rfl (by show ([‹"_law_day"›, ‹"_law_table_here"›]:List Str).Nodup;decide) (.cons (i:=1) rfl (.inr (.inl rfl)) (by show (some NameKind.cell)≠some NameKind.local;decide) (.inl rfl) rfl .nil) (λC fp s H=>(qR (mh (mj (jC hu (pv 1) (pv 0) ⟨rfl,rfl,rfl,rfl⟩))))) (λC fp s H=>(xL hu (pv 1) (pv 0) (λ_ _=>rfl))))) ae))) (aa (pv 6) ae)))))))))),?_⟩
  cases l with
  | num z=>
   refine ag (aH ⟨_,rfl,a,_,0,_,rfl,rfl,SqT.of ea,rfl,rfl,_,rfl,?_⟩)
   refine bB (aD ⟨_,rfl,a,_,1,_,rfl,rfl,SqT.of ea,rfl,by show 0<=sizeLine;decide,λld nld=>?_⟩)
   obtain⟨g1,e1⟩:=laid (o:=.lst []) nld
   generalize upd H ld _=H1 at g1 e1 ⊢
   refine⟨by show 2<=sizeLine;decide,λu nu=>?_⟩
   obtain⟨g2,e2⟩:=laid (o:=.tup [V.int z,.ref ld]) nu
   exact q u ld [] _ (g1.trans g2) (bW g1 nu) nld e2 ⟨g2 _ _ e1,λr hr=>by cases hr⟩ rfl
  | val k d=>
   refine ag (aH ⟨_,rfl,a,_,0,_,rfl,rfl,SqT.of ea,rfl,rfl,_,rfl,?_⟩)
   rw [show decide (V.str ‹"value"›=V.str ‹"number"›)=false from ‹0›]
   refine aZ (aA ?_)
   dsimp only
   refine ag (aH ⟨_,rfl,a,_,0,_,rfl,rfl,SqT.of ea,rfl,rfl,_,rfl,?_⟩)
   refine bB (aD ?_)
   refine⟨_,rfl,tb,rfl,.inr ⟨kvs,.of ht⟩,_,rfl,a,_,1,_,rfl,rfl,SqT.of ea,rfl,_,rfl,a,_,2,_,rfl,rfl,SqT.of ea,rfl,by show 2<=sizeLine;decide,λt1 n1=>?_⟩
   obtain⟨g1,e1⟩:=laid (o:=.tup [V.str k,V.int d]) n1
   generalize upd H t1 _=H1 at g1 e1 ⊢
   refine⟨_,.inr ⟨kvs,[.inr k,.inl d],t1,.of (g1 _ _ ht),rfl,e1,rfl⟩,?_⟩
   refine⟨_,rfl,a,_,1,_,rfl,rfl,SqT.of (g1 _ _ ea),rfl,_,rfl,a,_,2,_,rfl,rfl,SqT.of (g1 _ _ ea),rfl,by show 2<=sizeLine;decide,λt2 n2=>?_⟩
   obtain⟨g2,e2⟩:=laid (o:=.tup [V.str k,V.int d]) n2
   generalize upd H1 t2 _=H2 at g2 e2 ⊢
   refine⟨by show 1<=sizeLine;decide,λld nld=>?_⟩
   obtain⟨g3,e3⟩:=laid (o:=.lst [V.ref t2]) nld
   generalize upd H2 ld _=H3 at g3 e3 ⊢
   refine⟨by show 2<=sizeLine;decide,λu nu=>?_⟩
   obtain⟨g4,e4⟩:=laid (o:=.tup [tel kvs k d,.ref ld]) nu
   have g12:=g1.trans g2
   have g13:=g12.trans g3
   exact q u ld [((k,d),t2)] _ (g13.trans g4) (bW g13 nu) (bW g12 nld) e4 ⟨g4 _ _ e3,λr hr=>by rw [List.mem_singleton.mp hr];exact g4 _ _ (g3 _ _ e2)⟩ rfl
  | gth w ks f0 l0=>
   obtain⟨hw,⟨k1,k8,hnd,hks⟩,hd⟩:=id ok
   have gn:=fK w hw
   have hk:H pk=some (.lst (ks.map V.str)):=hk
   refine ag (aH ⟨_,rfl,a,_,0,_,rfl,rfl,SqT.of ea,rfl,rfl,_,rfl,?_⟩)
   rw [decide_eq_false (fX gn.1)]
   refine aZ (aA ?_)
   dsimp only
   refine ag (aH ⟨_,rfl,a,_,0,_,rfl,rfl,SqT.of ea,rfl,rfl,_,rfl,?_⟩)
   rw [decide_eq_false (fX gn.2.1)]
   refine aZ (aA ?_)
   dsimp only
   refine ag (aC ⟨_,rfl,a,_,rfl,SqT.of ea,rfl,_,_,rfl,_,_,rfl,_,_,rfl,_,_,rfl,rfl,?_⟩)
   walk_at "d"
   refine ag (aC ⟨by show 0<=sizeLine;decide,λld nld=>?_⟩)
   walk_at "d"
   obtain⟨g1,e1⟩:=laid (o:=.lst []) nld
   generalize upd H ld _=H1 at g1 e1 ⊢
   have hn4:ce f0 l0<=400:=by unfold ce;have:=hd.1;have:=hd.2.2;omega
   refine ag ⟨_,rfl,pk,rfl,⟨_,SqL.of (g1 _ _ hk)⟩,gR (K:=K) (a:=pk) (xs:=ks.map V.str) (DeI H a tb ld pk w ks f0 l0) ⟨none,[],rfl,g1,⟨e1,λr hr=>by cases hr⟩,rfl⟩ (λi σ H3 _ hh=>?_) (λi v σ H3 hi hh=>?_) λσ H3 hh=>?_⟩
   ·obtain⟨v7,rs,rfl,g3,_,_⟩:=hh
    exact SqL.of (g3 _ _ hk)
   ·obtain⟨v7,rs,rfl,g3,⟨a1,a2⟩,p4⟩:=hh
    rw [List.getElem?_map]at hi
    obtain⟨k,hk1,rfl⟩:=Option.map_eq_some_iff.mp hi
    have hil:=(List.getElem?_eq_some_iff.mp hk1).1
    have et:ks.take (i+1)=ks.take i++[k]:=by rw [List.take_add_one,hk1];rfl
    walk_at "d"
    have hz:rs.length<=400 * i:=by
     have:=congrArg List.length p4
     unfold prs at this
     rw [List.length_map]at this
     have hf:=dy f0 (ce f0 l0) (ks.take i)
     rw [List.length_take,Nat.min_eq_left (Nat.le_of_lt hil)]at hf
     have hm:=Nat.mul_le_mul_right i hn4
     omega
    have d0:=hd.1
    have d1:=hd.2.1
    have d2:=hd.2.2
    refine aX ⟨_,rfl,.inl ⟨rfl,_,SqL.of a1⟩,?_⟩
    refine de ⟨_,rfl,_,rfl,_,_,rfl,rfl,f0,l0+1,rfl,⟨by omega,by omega,by omega,by omega⟩,wI (k:=k) (n:=ce f0 l0) ‹1› (λd H4 R hR=>⟨_,rfl,_,rfl,by show 2<=sizeLine;decide,hR⟩) λD H4 rs4 nD g4 a4 p5=>?_⟩
    obtain⟨b1,b2⟩:=a4
    have hz4:rs4.length=ce f0 l0:=by
     have:=congrArg List.length p5
     unfold prs b9 at this
     rw [List.length_map,List.length_map,List.length_range]at this
     exact this
    have a14:=g4 _ _ a1
    refine⟨ld,D,_,_,rfl,rfl,a14,b1,by rw [List.length_map,List.length_map];exact Nat.le_trans (show _<=100000 by omega) (by decide),?_⟩
    refine⟨_,rs++rs4,rfl,λb o e=>?_,⟨by rw [aj,List.map_append],λr hr=>?_⟩,?_⟩
    ·rw [ah (ai e nld)];exact g4 _ _ (g3 _ _ e)
    ·have e:H4 r.2=some (.tup (nF r)):=by
      rcases List.mem_append.mp hr with hr | hr
      ·exact g4 _ _ (a2 r hr)
      ·exact b2 r hr
     rw [ah (cR e a14 (λz=>nomatch z))];exact e
    ·unfold prs at p4 p5 ⊢
     rw [List.map_append,p4,p5,et,List.flatMap_append]
     congr 1
     exact(List.append_nil _).symm
   ·obtain⟨v7,rs,rfl,g3,⟨a1,a2⟩,p4⟩:=hh
    rw [List.length_map,List.take_length]at p4
    dsimp only
    have hz:rs.length<=400 * 8:=by
     have:=congrArg List.length p4
     unfold prs at this
     rw [List.length_map]at this
     have hf:=dy f0 (ce f0 l0) ks
     have hm:ce f0 l0 * ks.length<=400 * 8:=Nat.mul_le_mul hn4 k8
     omega
    have ht3:=g3 _ _ ht
    refine aD ⟨_,rfl,?_⟩
    refine de ⟨_,rfl,ld,rfl,⟨_,SqL.of a1⟩,wH (xs:=rs.map λr=>V.ref r.2) (λv=>decide (lL kvs H3 v≠.non)) (lL kvs H3) (by rw [List.length_map];omega) a1 (λv H4 R hv g4 hR=>?_) (λv H4 R hv hp g4 hR=>?_) λD nD=>?_⟩
    ·obtain⟨r,hr,rfl⟩:=List.mem_map.mp hv
     have e:=a2 r hr
     have et:lL kvs H3 (.ref r.2)=tel kvs r.1.1 r.1.2:=lK e
     rw [et]at hR
     refine⟨_,rfl,tb,rfl,.inr ⟨kvs,.of (g4 _ _ ht3)⟩,_,rfl,_,.inr ⟨kvs,[.inr r.1.1,.inl r.1.2],r.2,.of (g4 _ _ ht3),rfl,g4 _ _ e,rfl⟩,_,rfl,?_⟩
     show R (!decide (tel kvs r.1.1 r.1.2=V.non)) H4
     rw [show (!decide (tel kvs r.1.1 r.1.2=V.non))=decide (tel kvs r.1.1 r.1.2≠V.non) from by simp]
     exact hR
    ·obtain⟨r,hr,rfl⟩:=List.mem_map.mp hv
     have e:=a2 r hr
     have et:lL kvs H3 (.ref r.2)=tel kvs r.1.1 r.1.2:=lK e
     rw [et]at hR hp
     have hp:=of_decide_eq_true hp
     have ev:valV kvs [.inr r.1.1,.inl r.1.2]=some (tel kvs r.1.1 r.1.2):=by
      unfold tel at hp ⊢
      cases e9:valV kvs [.inr r.1.1,.inl r.1.2] with
      | none=>rw [e9]at hp;exact absurd rfl hp
      | some x=>rfl
     exact⟨_,rfl,_,rfl,tb,_,rfl,.inr ⟨kvs,[.inr r.1.1,.inl r.1.2],r.2,.of (g4 _ _ ht3),rfl,g4 _ _ e,ev.symm⟩,hR⟩
    ·have em:(rs.map λr=>V.ref r.2).map (lL kvs H3)=cV (tel kvs) (prs rs):=by
      unfold cV prs
      rw [List.map_map,List.map_map]
      refine List.map_congr_left λr hr=>?_
      exact lK (a2 r hr)
     have ef:((rs.map λr=>V.ref r.2).filter λv=>decide (lL kvs H3 v≠.non)).map (lL kvs H3)=(eX (cV (tel kvs) (prs rs))).map V.int:=by
      rw [<- em,<- vK (λv hv=>?_)]
      ·exact(List.filter_map (f:=lL kvs H3) (p:=λv=>decide (v≠V.non)) (l:=rs.map λr=>V.ref r.2)).symm
      ·rw [em]at hv
       obtain⟨p,_,rfl⟩:=List.mem_map.mp hv
       exact tv.ok _ _
     rw [ef]
     obtain⟨g5,e5⟩:=laid (o:=.lst ((eX (cV (tel kvs) (prs rs))).map V.int)) nD
     generalize upd H3 D _=H5 at g5 e5 ⊢
     refine⟨w,D,eX (cV (tel kvs) (prs rs)),rfl,e5,λH6 g6=>?_⟩
     refine⟨_,rfl,by show 2<=sizeLine;decide,λu nu=>?_⟩
     have g36:=(g3.trans g5).trans g6
     have eo:aN ks=ks:=ms _ rfl hnd
     have ea6:vS (tel kvs) (.gth w ks f0 l0)=gat w (eX (cV (tel kvs) (prs rs))):=by
      show gat w _=_
      rw [p4,eo]
     obtain⟨g7,e7⟩:=laid (o:=.tup [gat w (eX (cV (tel kvs) (prs rs))),.ref ld]) nu
     rw [ea6]at q
     refine q u ld rs _ (g36.trans g7) (bW g36 nu) nld e7 ⟨g7 _ _ (g6 _ _ (g5 _ _ a1)),λr hr=>g7 _ _ (g6 _ _ (g5 _ _ (a2 r hr)))⟩ ?_
     show _=(aN ks).flatMap _
     rw [p4,eo]
  | snc=>exact absurd (show 3 < 3 from h3) (by decide)
  | prt=>exact absurd (show 4 < 3 from h3) (by decide)
  | chg=>exact absurd (show 5 < 3 from h3) (by decide)
noncomputable def sY (acc:List RZ) (r:RZ):List RZ:=if r.1∈acc.map (·.1) then acc else acc++[r]
noncomputable def ddR (rs:List RZ):List RZ:=rs.foldl sY []
theorem ou {r r':RZ}:(dR r).1=(dR r').1↔r.1=r'.1:=by
 constructor
 ·intro h
  have h:[(Sum.inr r.1.1:Key),.inl r.1.2]=[.inr r'.1.1,.inl r'.1.2]:=h
  injection h with h1 h2
  injection h2 with h2 _
  exact Prod.ext (Sum.inr.inj h1) (Sum.inl.inj h2)
 ·intro h
  show [(Sum.inr r.1.1:Key),.inl r.1.2]=_
  rw [h]
  rfl
theorem wR (acc:List RZ) (r:RZ):iL (acc.map dR) (dR r)=(sY acc r).map dR:=by
 have e:(dR r).1∈(acc.map dR).map (·.1)↔r.1∈acc.map (·.1):=by
  rw [List.map_map,List.mem_map,List.mem_map]
  exact⟨λ⟨x,h1,h2⟩=>⟨x,h1,ou.mp h2⟩,λ⟨x,h1,h2⟩=>⟨x,h1,ou.mpr h2⟩⟩
 unfold iL sY
 by_cases h:r.1∈acc.map (·.1)
 ·rw [if_pos (e.mpr h),if_pos h]
 ·rw [if_neg (λz=>h (e.mp z)),if_neg h,List.map_append]
  rfl
theorem oE:∀(l acc:List RZ),(l.map dR).foldl iL (acc.map dR)=(l.foldl sY acc).map dR
 | [],_=>rfl
 | r::l,acc=>by
  rw [List.map_cons,List.foldl_cons,wR,List.foldl_cons,oE l]
theorem rB (rs:List RZ) (n:Nat):ddZ (rs.map dR) n=(ddR (rs.take n)).map dR:=by
 unfold ddZ ddR
 rw [<- List.map_take]
 exact oE _ []
structure DdI (rs acc:List RZ):Prop where
 nd:(acc.map (·.1)).Nodup
 sub:∀r∈acc,r∈rs
 all:∀p∈prs rs,p∈acc.map (·.1)
theorem mN:∀(n:Nat) (rs:List RZ),rs.length=n->DdI rs (ddR rs)
 | 0,rs,h=>by rw [List.length_eq_zero_iff.mp h];exact⟨.nil,(λ_ h=>by cases h),λ_ h=>by cases h⟩
 | n+1,rs,h=>by
  obtain⟨xs,x,rfl⟩:∃xs x,rs=xs++[x]:=⟨rs.dropLast,rs.getLast (by intro z;rw [z]at h;cases h),(List.dropLast_concat_getLast _).symm⟩
  rw [List.length_append,List.length_singleton]at h
  obtain⟨h1,h2,h3⟩:=mN n xs ‹1›
  have e:ddR (xs++[x])=sY (ddR xs) x:=by unfold ddR;rw [List.foldl_append];rfl
  rw [e]
  unfold sY
  by_cases z:x.1∈(ddR xs).map (·.1)
  ·rw [if_pos z]
   refine⟨h1,λr hr=>List.mem_append_left _ (h2 r hr),λp hp=>?_⟩
   unfold prs at hp
   rw [List.map_append]at hp
   rcases List.mem_append.mp hp with hp | hp
   ·exact h3 p hp
   ·rw [List.mem_singleton.mp hp];exact z
  ·rw [if_neg z]
   refine⟨?_,λr hr=>?_,λp hp=>?_⟩
   ·rw [List.map_append,List.nodup_append]
    refine⟨h1,by simp,λa ha b hb=>?_⟩
    rw [List.mem_singleton.mp hb]
    intro e
    rw [e]at ha
    exact z ha
   ·rcases List.mem_append.mp hr with hr | hr
    ·exact List.mem_append_left _ (h2 r hr)
    ·exact List.mem_append_right _ hr
   ·unfold prs at hp
    rw [List.map_append]at hp ⊢
    rcases List.mem_append.mp hp with hp | hp
    ·exact List.mem_append_left _ (h3 p hp)
    ·exact List.mem_append_right _ hp
theorem qX {α:Type}:∀{l u:List α},l.Nodup->(∀x∈l,x∈u)->l.length<=u.length
 | [],_,_,_=>Nat.zero_le _
 | a::l,u,nd,hs=>by
  obtain⟨n1,n2⟩:=List.nodup_cons.mp nd
  obtain⟨x,y,rfl⟩:=List.append_of_mem (hs a List.mem_cons_self)
  have:=qX (l:=l) (u:=x++y) n2 λz hz=>by
   have:=hs z (List.mem_cons_of_mem _ hz)
   rw [List.mem_append,List.mem_cons]at this
   rw [List.mem_append]
   rcases this with q | q | q
   ·exact .inl q
   ·exact absurd (q ▸ hz) n1
   ·exact .inr q
  rw [List.length_append]at this
  rw [List.length_cons,List.length_append,List.length_cons]
  omega
theorem B7 {rs:List RZ}{U:List (Str × Int)} (hU:U.length < 1000) (h:∀p∈prs rs,p∈U):wU (rs.map dR):=λi _=>by
 rw [rB,List.length_map]
 obtain⟨h1,h2,_⟩:=mN _ (rs.take i) rfl
 have:=qX (u:=U) h1 λx hx=>by
  obtain⟨r,hr,rfl⟩:=List.mem_map.mp hx
  exact h _ (List.mem_map_of_mem (List.mem_of_mem_take (h2 r hr)))
 rw [List.length_map]at this
 omega
theorem wx (rs:List RZ):ddZ (rs.map dR) (rs.map dR).length=(ddR rs).map dR:=by
 rw [rB,List.length_map,List.take_length]
theorem ud {rs rs':List RZ} (h1:iI rs) (h2:iI rs') (hp:(prs rs).Perm (prs rs')):prs rs=prs rs':=by
 refine List.Perm.eq_of_pairwise (le:=λa b=>ltK b a=false) (λa b _ _ x y=>lb y x) ?_ ?_ hp
 ·unfold prs;rw [List.pairwise_map];exact h1
 ·unfold prs;rw [List.pairwise_map];exact h2
noncomputable def yr (p:Str × Int):PySem.W.Dat:=.tuple [.str p.1,.int p.2]
theorem oS {H:Hp}{a:Addr}{rs:List RZ} (h:Askd H a rs):DatV H (.ref a) (.list ((prs rs).map yr)):=by
 obtain⟨h1,h2⟩:=h
 refine .lst h1 ?_
 clear h1
 induction rs with
 | nil=>exact .nil
 | cons r rs ih=>exact .cons (.tup (h2 r List.mem_cons_self) (.cons (.str _) (.cons (.int _) .nil))) (ih λx hx=>h2 x (List.mem_cons_of_mem _ hx))
theorem vN {k:Str} (h:iM k):PyData.strOk k=true:=by
 obtain⟨h1,h2,h3⟩:=jH h
 unfold PyData.strOk
 rw [<- Array.all_toList,List.all_eq_true]
 intro c hc
 have:=h3 c hc
 exact decide_eq_true ‹1›
theorem yq {ps:List (Str × Int)} (h:∀p∈ps,iM p.1):PySem.W.kqdOk 9 (.list (ps.map yr))=true:=by
 show (ps.map yr).all (PySem.W.kqdOk 8)=true
 refine List.all_eq_true.mpr λd hd=>?_
 obtain⟨p,hp,rfl⟩:=List.mem_map.mp hd
 show [PySem.W.Dat.str p.1,.int p.2].all (PySem.W.kqdOk 7)=true
 have:PySem.W.kqdOk 7 (.str p.1)=true:=vN (h p hp)
 rw [List.all_cons,this]
 rfl
noncomputable def rL (ss:List Str) (lo wd:Int):List (Str × Int):=ss.flatMap λk=>b9 k lo wd.toNat
theorem j8 {k:Str}{f:Int}{n:Nat}{p:Str × Int}:p∈b9 k f n↔p.1=k/\f<=p.2/\p.2 < f+n:=by
 unfold b9
 rw [List.mem_map]
 constructor
 ·rintro⟨i,hi,rfl⟩
  have:=List.mem_range.mp hi
  exact⟨rfl,by show f<=f+(i:Int);omega,by show f+(i:Int) < f+n;omega⟩
 ·rintro⟨h1,h2,h3⟩
  refine⟨(p.2 - f).toNat,List.mem_range.mpr ‹1›,Prod.ext h1.symm ?_⟩
  show f+((p.2 - f).toNat:Int)=p.2
  omega
theorem qB {ss:List Str}{lo wd:Int}{p:Str × Int} (h1:p.1∈ss) (h2:lo<=p.2) (h3:p.2 < lo+wd):p∈rL ss lo wd:=by
 unfold rL
 rw [List.mem_flatMap]
 exact⟨p.1,h1,j8.mpr ⟨rfl,h2,by omega⟩⟩
theorem qC {ss:List Str}{lo wd:Int} (hss:ss.length=8/\wd<=40\/ss.length=2/\wd<=400):(rL ss lo wd).length < 1000:=by
 have:=dy lo wd.toNat ss
 unfold rL
 rcases hss with⟨h1,h2⟩ | ⟨h1,h2⟩
 ·rw [h1]at this;omega
 ·rw [h1]at this;omega
theorem mD {ss:List Str}{lo wd:Int}{l:Lf} (h:yC ss lo wd l) (ok:dL l):∀p∈sC l,p∈rL ss lo wd/\iM p.1:=by
 cases l with
 | val k d=>
  intro p hp
  rw [List.mem_singleton.mp hp]
  exact⟨qB h.1 h.2.1 h.2.2,ok.1⟩
 | gth w ks f l=>
  intro p hp
  obtain⟨k,hk,hp⟩:=List.mem_flatMap.mp (show p∈(aN ks).flatMap _ from hp)
  obtain⟨e1,e2,e3⟩:=j8.mp hp
  have hk:=jD.mp hk
  obtain⟨h1,h2,h3⟩:=h
  have hd:=ok.2.2
  unfold ce at e3
  exact⟨qB (by rw [e1];exact h1 k hk) ‹1› (by have:=hd.2.1;omega),by rw [e1];exact ok.2.1.2.2.2 k hk⟩
 | _=>intro p hp;cases hp
theorem Ba (k:Str) (f:Int) (n:Nat):(b9 k f n).Nodup:=by
 unfold b9
 rw [List.nodup_iff_pairwise_ne,List.pairwise_map]
 refine List.Pairwise.imp ?_ (List.nodup_iff_pairwise_ne.mp List.nodup_range)
 intro a b hab e
 have:=congrArg Prod.snd e
 have:f+(a:Int)=f+(b:Int):=this
 omega
theorem rc (f:Int) (n:Nat):∀{ks:List Str},ks.Nodup->(ks.flatMap λk=>b9 k f n).Nodup
 | [],_=>.nil
 | k::ks,h=>by
  obtain⟨h1,h2⟩:=List.nodup_cons.mp h
  rw [List.flatMap_cons,List.nodup_append]
  refine⟨Ba k f n,rc f n h2,λa ha b hb e=>?_⟩
  obtain⟨k',hk',hb⟩:=List.mem_flatMap.mp hb
  rw [<- e]at hb
  have e1:=(j8.mp ha).1
  have e2:=(j8.mp hb).1
  exact h1 (by rw [<- e1,e2];exact hk')
theorem yk {l:Lf} (ok:dL l):(sC l).Nodup:=by
 cases l with
 | val k d=>exact List.pairwise_singleton _ _
 | gth w ks f l=>
  show ((aN ks).flatMap _).Nodup
  rw [ms _ rfl ok.2.1.2.2.1]
  exact rc f _ ok.2.1.2.2.1
 | _=>exact .nil
theorem iZ {kvs:List (List Key × V)} (h:kF kvs){l:Lf}:kH (vS (tel kvs) l):=by
 cases l with
 | num z=>exact .inr ⟨z,rfl⟩
 | val k d=>exact h.ok k d
 | gth w ks f l=>
  show kH (gat w _)
  unfold gat
  split
  ·exact .inr ⟨_,rfl⟩
  ·split
   ·exact .inr ⟨_,rfl⟩
   ·split
    ·rcases best_min_is (eX (cV (tel kvs) ((aN ks).flatMap λk=>b9 k f (ce f l)))) with⟨_,e⟩ | ⟨m,e,_⟩
     ·rw [e];exact .inl rfl
     ·rw [e];exact .inr ⟨m,rfl⟩
    ·rcases best_max_is (eX (cV (tel kvs) ((aN ks).flatMap λk=>b9 k f (ce f l)))) with⟨_,e⟩ | ⟨m,e,_⟩
     ·rw [e];exact .inl rfl
     ·rw [e];exact .inr ⟨m,rfl⟩
 | _=>exact .inl rfl
theorem nA {rs ds rs3 rs4:List RZ} (e1:prs rs=prs ds) (nd:(prs ds).Nodup) (p3:rs3.Perm (ddR rs)) (s3:iI rs3) (p4:rs4.Perm ds) (s4:iI rs4):prs rs3=prs rs4:=by
 obtain⟨h1,h2,h3⟩:=mN _ rs rfl
 have q1:((ddR rs).map (·.1)).Perm (prs ds):=by
  refine jz h1 (λx hx=>?_) ?_
  ·obtain⟨r,hr,rfl⟩:=List.mem_map.mp hx
   rw [<- e1]
   exact List.mem_map_of_mem (h2 r hr)
  ·exact qX nd λx hx=>h3 x (by rw [e1];exact hx)
 exact ud s3 s4 (((p3.map λr:RZ=>r.1).trans q1).trans (p4.map λr:RZ=>r.1).symm)
noncomputable abbrev uM:Stmt:=top 61
noncomputable abbrev rY:Stmt:=top 62
inductive VRd (c:Cs):Addr->Sp->Prop
 | mk (l0:Lf) (h:lfK l0 < 3):VRd c (lfC c l0) (zR c (lfK l0))
theorem Bc (xs:List V) (i:Nat) (h:i<=xs.length):dH xs none (some (i:Int))=xs.take i:=by
 unfold dH
 rw [HT.sIx_nat,Nat.min_eq_left h]
 rfl
theorem Lm.gr {T:Addr}{H H':Hp} (L:Lm T H) (g:bh H H'):Lm T H':=by
 rcases L with e | ⟨c,e1,e2⟩
 ·exact .inl (g _ _ e)
 ·exact .inr ⟨c,g _ _ e1,g _ _ e2⟩
theorem Lm.of {T la:Addr}{H H':Hp} (L:Lm T H) (o:Off la H H'){xs:List V} (h:H la=some (.lst xs)):Lm T H':=by
 rcases L with e | ⟨c,e1,e2⟩
 ·exact .inl (o _ _ e λz=>by rw [z,h]at e;cases e)
 ·exact .inr ⟨c,o _ _ e1 (λz=>by rw [z,h]at e1;cases e1),o _ _ e2 (λz=>by rw [z,h]at e2;cases e2)⟩
theorem jF {s:Addr}{H H1 H2:Hp} (n:H s=none) (g:bh H H1) (o:Off s H1 H2):bh H H2:=λb u e=>o _ _ (g _ _ e) (ai e n)
noncomputable def ub (T:Addr):Sp:=λvs H Q _=>∃(cc:Int),vs=[.int cc]/\Lm T H/\∀H',Gm T H H'->Q (.bl true) H'
inductive GoA (H:Hp) (cc:Int) (s t:Addr) (lo wd:Int) (σ:St) (H2:Hp):Prop
 | mk (ln:Addr) (ss:List Str) (h1:σ=[some (.int cc),some (.ref s),some (.ref ln),some (.ref t),none,none,none,none,none,none,none]) (h2:bh H H2) (h3:SAt H2 s) (h4:H2 ln=some (.lst (ss.map V.str))) (h5:Nm2 ss) (h6:ss.length=8/\wd<=40\/ss.length=2/\wd<=400) (h7:H2 t=some (.tup [.int lo,.int wd])) (h8:ln≠s):GoA H cc s t lo wd σ H2
inductive GoB (H:Hp) (cc:Int) (s ln t tb:Addr) (ss:List Str) (lo wd:Int) (kvs:List (List Key × V)) (σ:St) (H2:Hp):Prop
 | mk (a:Addr) (l:Lf) (v6:Option V) (h1:σ=[some (.int cc),some (.ref s),some (.ref ln),some (.ref t),some (.ref tb),some (.ref a),v6,none,none,none,none]) (h2:bh H H2) (h3:LN l H2 a) (h4:dL l) (h5:yC ss lo wd l) (h6:lfK l < 3) (h7:H2 tb=some (.dT kvs)):GoB H cc s ln t tb ss lo wd kvs σ H2
noncomputable abbrev w3:List Str:=[‹"since"›, ‹"part"›, ‹"change"›]
noncomputable abbrev w4g:List Str:=[‹"sum"›, ‹"count"›, ‹"least"›, ‹"greatest"›]
theorem Bs {l:Lf} (ok:dL l):decide (bX l∈w3)=decide (3<=lfK l):=by
 cases l with
 | gth w ks f l0=>
  have:∀w∈eQ,w∉w3:=‹0›
  exact(decide_eq_false (this w ok.1)).trans (decide_eq_false (show ¬3<=2 by decide)).symm
 | num z=>exact(decide_eq_false (show ‹"number"›∉w3 by decide +kernel)).trans (decide_eq_false (show ¬3<=0 by decide)).symm
 | val k d=>exact(decide_eq_false (show ‹"value"›∉w3 by decide +kernel)).trans (decide_eq_false (show ¬3<=1 by decide)).symm
 | snc k b0 f l0=>exact(decide_eq_true (show ‹"since"›∈w3 by decide +kernel)).trans (decide_eq_true (show 3<=3 by decide)).symm
 | prt k k2 f l0=>exact(decide_eq_true (show ‹"part"›∈w3 by decide +kernel)).trans (decide_eq_true (show 3<=4 by decide)).symm
 | chg r k f l0=>exact(decide_eq_true (show ‹"change"›∈w3 by decide +kernel)).trans (decide_eq_true (show 3<=5 by decide)).symm
theorem D1 {n:Int} (n0:0<=n) (n1:n < 4):∃w,atI (w4g.map V.str) n=some (.str w)/\w∈eQ:=by
 rcases (show n=0\/n=1\/n=2\/n=3 by omega) with rfl | rfl | rfl | rfl
 ·exact⟨_,rfl,‹0›⟩
 ·exact⟨_,rfl,‹0›⟩
 ·exact⟨_,rfl,‹0›⟩
 ·exact⟨_,rfl,‹0›⟩
theorem D0 {p:Addr}{l:Lf} (h:3<=lfK l) (ok:dL l){ss:List Str}{lo wd:Int} (hi:yC ss lo wd l):∃f l0,atI (lfV p l) (-2)=some (.int f)/\atI (lfV p l) (-1)=some (.int l0)/\kI f l0/\lo<=f/\l0 < lo+wd:=by
 cases l with
 | snc k b0 f l0=>exact⟨f,l0,rfl,rfl,ok.2.2,hi.2.1,hi.2.2⟩
 | prt k k2 f l0=>exact⟨f,l0,rfl,rfl,ok.2.2,hi.2.1,hi.2.2⟩
 | chg r k f l0=>exact⟨f,l0,rfl,rfl,ok.2.2,hi.2.1,hi.2.2⟩
 | num z=>exact absurd h (by show ¬3<=0;decide)
 | val k d=>exact absurd h (by show ¬3<=1;decide)
 | gth w ks f l0=>exact absurd h (by show ¬3<=2;decide)
theorem cU:FnScope ["_law_cell_here", "_law_state", "_law_names_here", "_law_window_here", "_law_table_here", "_law_node", "_law_word", "_law_question", "_law_due_here", "_law_days_here", "_law_asked"] ["_law_cell_here"] (aq uM):=‹2›
theorem ya {f f1 f2 f3 f4 f5 f6 f7 f8 f9 f10 f11 f12 f13 T:Addr}{fd:FuncData} (F:Fun K "_law_good" "_law_good" uM f fd) (N:Free mg){c:Cs} (VP:∀C sp,VPl c C sp->MV P w K mg base CX0 "plain" 4 ["self", "told"] sp C) (VR:∀C sp,VRd c C sp->MV P w K mg base CX0 "read" 5 ["self", "told"] sp C){fd1:FuncData} (CB:Cal P w K mg base "_law_begun" 1 ["_law_cell_here"] lU f1 fd1){fd2:FuncData} (CM2:Cal P w K mg base "_law_names" 3 ["_law_cell_here"] qH f2 fd2){fd3:FuncData} (CM:Cal P w K mg base "_law_mix" 1 ["_law_cell_here", "_law_k"] tX f3 fd3){fd4:FuncData} (CI:Cal P w K mg base "_law_window" 3 ["_law_state"] n8 f4 fd4){fd5:FuncData} (CTb:Cal P w K mg base "_law_table" 4 ["_law_state", "_law_names_here", "_law_window_here"] qG f5 fd5){fd6:FuncData} (CL:Cal P w K mg base "_law_leaf" 4 ["_law_state", "_law_names_here", "_law_window_here", "_law_most"] tZ f6 fd6){fd7:FuncData} (CP:Cal P w K mg base "_law_pull" 2 ["_law_state", "_law_many"] eE f7 fd7){fd8:FuncData} (CS:Cal P w K mg base "_law_some" 3 ["_law_state", "_law_names_here", "_law_most"] pc f8 fd8){fd9:FuncData} (CQ:Cal P w K mg base "question_of" 13 ["text"] (yN c) f9 fd9){fd10:FuncData} (CX:Cal P w K mg base "_law_text" 1 ["_law_node"] yP f10 fd10){fd11:FuncData} (CU:Cal P w K mg base "_law_due" 2 ["_law_node", "_law_table_here"] yR f11 fd11){fd12:FuncData} (CK:Cal P w K mg base "_law_like" 1 ["_law_found", "_law_due_here"] tY f12 fd12){fd13:FuncData} (CT:Cal P w K mg base "_law_telling" 2 ["_law_table_here", "_law_asked"] (kP T) f13 fd13):FnOk P w K mg base CX0 14 f fd ["_law_cell_here"] (ub T):=by
 refine F.ok (k:=13) cU (λvs H Q E h=>?_) (λcdv A outer s H vs Q E hr h=>?_)
 ·obtain⟨cc,rfl,_⟩:=h
  rfl
 ·obtain⟨cc,rfl,L,q⟩:=h
  have hu:=aL hr
  refine⟨_,(af (aE (i:=1) cU.nd rfl (Or.inl rfl) (aw CB.ok (hr.mono (by decide)) rfl CB.nm CB.kp CB.bd .nil av (aa (pv 0) ae)))
   (af (aE (i:=2) cU.nd rfl (Or.inl rfl) (aw CM2.ok (hr.mono (by decide)) rfl CM2.nm CM2.kp CM2.bd .nil av (aa (aw CM.ok (hr.mono (by decide)) rfl CM.nm CM.kp CM.bd .nil av (aa (pv 0) (aa au ae))) ae)))
   (af (aE (i:=3) cU.nd rfl (Or.inl rfl) (aw CI.ok (hr.mono (by decide)) rfl CI.nm CI.kp CI.bd .nil av (aa (pv 1) ae)))
   (af (bt (aK bK (bn cw (pv 3) au (λ_ _=>rfl)) au (aS _)) (ao (aE (i:=2) cU.nd rfl (Or.inl rfl) (dX iS (pv 2) fE (fB au)))) aI)
   (af (aE (i:=4) cU.nd rfl (Or.inl rfl) (aw CTb.ok (hr.mono (by decide)) rfl CTb.nm CTb.kp CTb.bd .nil av (aa (pv 1) (aa (pv 2) (aa (pv 3) ae)))))
   (af (aE (i:=5) cU.nd rfl (Or.inl rfl) (aw CL.ok (hr.mono (by decide)) rfl CL.nm CL.kp CL.bd .nil av (aa (pv 1) (aa (pv 2) (aa (pv 3) (aa au ae))))))
   (af (bt (aK cG (bn cw (pv 5) au (λ_ _=>rfl)) (bN (aa aB (aa aB (aa aB ae)))) (by with_unfolding_all rfl)) (@af _ _ _ _ _ (@aE (i:=6) _ _ _ _ _ _ cU.nd rfl (Or.inl rfl) (@bn _ _ _ _ _ _ _ br (@aR _ _ _ _ (@aa _ _ _ _ _ aB (@aa _ _ _ _ _ aB (@aa _ _ _ _ _ aB (@aa _ _ _ _ _ aB ae rfl) rfl) rfl) rfl)) (aw CP.ok (hr.mono (by decide)) rfl CP.nm CP.kp CP.bd .nil av (@aa _ _ _ _ _ (pv 1) (@aa _ _ _ _ _ au ae rfl) rfl)) (λ_ _=>rfl)) (by rfl) (by first | exact .inl rfl | exact .inr rfl))
   (@ao _ _ _ (@aE (i:=5) _ _ _ _ _ _ cU.nd rfl (Or.inl rfl) (@bN _ _ _ _ _ (@aa _ _ _ _ _ (pv 6) (@aa _ _ _ _ _ (aw CS.ok (hr.mono (by decide)) rfl CS.nm CS.kp CS.bd .nil av (@aa _ _ _ _ _ (pv 1) (@aa _ _ _ _ _ (pv 2) (@aa _ _ _ _ _ au ae rfl) rfl) rfl)) (@aa _ _ _ _ _ (@bn _ _ _ _ _ _ _ cw (pv 5) (@vd _ _ _ _ _ _ oW au) (λ_ _=>rfl)) (@aa _ _ _ _ _ (@bn _ _ _ _ _ _ _ cw (pv 5) (@vd _ _ _ _ _ _ oW au) (λ_ _=>rfl)) ae rfl) rfl) rfl) rfl)) (by rfl) (by first | exact .inl rfl | exact .inr rfl)))) aI)
   (af (aE (i:=7) cU.nd rfl (Or.inl rfl) (aw CQ.ok (hr.mono (by decide)) rfl CQ.nm CQ.kp CQ.bd .nil av (aa (aw CX.ok (hr.mono (by decide)) rfl CX.nm CX.kp CX.bd .nil av (aa (pv 5) ae)) ae)))
   (af (ij (aw CU.ok (hr.mono (by decide)) rfl CU.nm CU.kp CU.bd .nil av (aa (pv 5) (aa (pv 4) ae))) (mi rfl (cx (bC (i:=8) cU.nd rfl (Or.inl rfl)) (cx (bC (i:=9) cU.nd rfl (Or.inl rfl)) iW))))
   (af (aE (i:=10) cU.nd rfl (Or.inl rfl) (aR ae))
   (af (bt (gh (eG (aw CK.ok (hr.mono (by decide)) rfl CK.nm CK.kp CK.bd .nil av (aa (jA VR (pv 7) (hr.mono (by decide)) av (aa (aw CT.ok (hr.mono (by decide)) rfl CT.nm CT.kp CT.bd .nil av (aa (pv 4) (aa (pv 10) ae))) ae)) (aa (pv 8) ae))))) (ao (ay qU)) aI)
   (ao (ay (fj (ck (vm hr.units) (aG (mP rfl) (by rfl) N.sorted PyProof.Rows.Boot.«sorted» (aa (aQ (sR rfl (Nat.lt_of_le_of_lt (Nat.add_le_add_left (show 8<=64 by decide) _) hr.units)) (by rfl) N.set PyProof.Rows.Boot.«set» (aa (pv 10) ae)) ae)) (aG mO (by rfl) N.sorted PyProof.Rows.Boot.«sorted» (aa (pv 9) ae)) (aS _)) (fi (aw CK.ok (hr.mono (by decide)) rfl CK.nm CK.kp CK.bd .nil av (aa (jA VP (pv 7) (hr.mono (by decide)) av (aa (aw CT.ok (hr.mono (by decide)) rfl CT.nm CT.kp CT.bd .nil av (aa (pv 4) (aa (aR ae) ae))) ae)) (aa (pv 8) ae)))))))))))))))))),?_⟩
  refine ag (aC ⟨_,rfl,cc,rfl,λs H1 ns g1 hs1=>?_⟩)
  walk_at "d"
  refine ag (aC ⟨_,rfl,cc,99,rfl,λmx _ _=>⟨mx,rfl,λln ss H2 nln g2 eln hss=>?_⟩⟩)
  walk_at "d"
  have hs2:=hs1.keep g2
  have nls:ln≠s:=λz=>by obtain⟨xs,e⟩:=hs1.lst;rw [z,e]at nln;cases nln
  refine ag (aC ⟨_,rfl,s,rfl,hs2,λt lo wd H3 o3 hs3 et nts h0 h1 h2 hw=>?_⟩)
  walk_at "d"
  have g3:bh H H3:=jF ns (g1.trans g2) o3
  have eln3:=o3 _ _ eln nls
  refine uU (GoA H cc s t lo wd) (λR hR=>?_) λσ H4 hh=>?_
  ·refine aH ⟨_,rfl,t,_,1,_,rfl,rfl,SqT.of et,rfl,rfl,_,rfl,?_⟩
   by_cases z4:wd=400
   ·rw [decide_eq_true (show V.int wd=V.int 400 by rw [z4])]
    refine bB (aC ⟨_,rfl,_,rfl,ln,_,rfl,SqL.of eln3,λp np=>?_⟩)
    walk_at "d"
    have e2:=Bc (ss.map V.str) 2 (by rw [List.length_map,hss.1];decide)
    rw [show dH (ss.map V.str) none (some 2)=(ss.take 2).map V.str from by rw [List.map_take];exact e2]
    obtain⟨g4,e4⟩:=laid (o:=.lst ((ss.take 2).map V.str)) np
    have nps:p≠s:=λz=>by obtain⟨xs,e⟩:=hs3.lst;rw [z,e]at np;cases np
    have hl2:(ss.take 2).length=2:=by rw [List.length_take,hss.1];decide
    exact hR _ _ ⟨p,ss.take 2,rfl,g3.trans g4,hs3.keep g4,e4,⟨.inr hl2,hss.2.1.sublist (List.take_sublist _ _),λx hx=>hss.2.2 x (List.mem_of_mem_take hx)⟩,.inr ⟨hl2,by omega⟩,g4 _ _ et,nps⟩
   ·rw [decide_eq_false (λz=>z4 (V.int.inj z))]
    refine aZ (aA ?_)
    exact hR _ _ ⟨ln,ss,rfl,g3,hs3,eln3,⟨.inl hss.1,hss.2⟩,.inl ⟨hss.1,hw.resolve_right z4⟩,et,nls⟩
  obtain⟨ln,ss,rfl,g4,hs4,eln,hss,huni,et,nls⟩:=hh
  have nts:t≠s:=hs4.ne et
  refine ag (aC ⟨_,rfl,_,rfl,_,rfl,s,ln,t,rfl,ss,lo,wd,hs4,eln,hss,nls,et,nts,h0,h1,h2,λtb kvs H5 ntb o5 hs5 etb tv htl=>?_⟩)
  walk_at "d"
  have g5:=jF ns g4 o5
  have ntbs:tb≠s:=λz=>by obtain⟨xs,e⟩:=hs5.lst;rw [z,e]at etb;cases etb
  have eln5:=o5 _ _ eln nls
  refine ag (aC ⟨_,rfl,_,rfl,_,rfl,s,ln,t,8,rfl,ss,lo,wd,hs5,eln5,hss,nls,o5 _ _ et nts,nts,h0,h1,h2,by decide,by decide,λa l H6 okl hin na o6 hs6 hln=>?_⟩)
  walk_at "d"
  have g6:=jF ns g5 o6
  have hln6:LN l H6 a:=hln.keep t8
  have etb6:=o6 _ _ etb ntbs
  refine uU (GoB H cc s ln t tb ss lo wd kvs) (λR hR=>?_) λσ H7 hh=>?_
  ·obtain⟨pk,ea,hk⟩:=id hln6
   obtain⟨r,ev,er⟩:=zh pk l
   have ea':=ea
   rw [ev]at ea'
   refine aH ⟨_,rfl,a,_,0,_,rfl,rfl,SqT.of ea',zw _ _,by show 3<=sizeLine;decide,λtp ntp=>?_⟩
   obtain⟨g7,e7⟩:=laid (o:=.tup (w3.map V.str)) ntp
   change rIn _ _ _ _ (upd H6 tp (.tup (w3.map V.str))) _
   have hs7:=hs6.keep g7
   generalize upd H6 tp _=H7 at g7 e7 hs7 ⊢
   refine⟨tp,_,rfl,.inr (SqT.of e7),rfl,bD _,?_⟩
   rw [if_neg Bool.false_ne_true,bP,Bs okl]
   by_cases h3:3<=lfK l
   ·rw [decide_eq_true h3]
    obtain⟨f0,l0,ef0,el0,hd,d1,d3⟩:=D0 (p:=pk) h3 okl hin
    refine⟨_,rfl,bB ?_⟩
    refine ag (aC ⟨by show 4<=sizeLine;decide,λl4 nl4=>?_⟩)
    obtain⟨g8,e8⟩:=laid (o:=.lst (w4g.map V.str)) nl4
    have hs8:=hs7.keep g8
    have n4s:l4≠s:=λz=>by obtain⟨xs,e⟩:=hs7.lst;rw [z,e]at nl4;cases nl4
    change jg _ _ _ _ _ (upd H7 l4 (.lst (w4g.map V.str))) _
    have g68:=g7.trans g8
    generalize upd H7 l4 _=H8 at g8 e8 hs8 g68 ⊢
    refine⟨_,rfl,s,4,rfl,hs8,by decide,by decide,λn9 H9 n90 n91 o9 hs9=>?_⟩
    obtain⟨w,ew,hw⟩:=D1 n90 n91
    refine⟨l4,_,_,_,rfl,rfl,SqL.of (o9 _ _ e8 n4s),ew,?_⟩
    walk_at "d"
    have hss8:1<=ss.length/\ss.length<=100:=by rcases hss.1 with z | z <;> omega
    have nas:a≠s:=hs6.ne ea
    refine aC ⟨_,rfl,_,rfl,_,rfl,s,ln,ss,8,rfl,hs9,o9 _ _ (g68 _ _ (o6 _ _ eln5 nls)) nls,nls,by decide,hss8.1,hss8.2,λp xs ys H10 np o10 hs10 ep hne hpm hlm=>?_⟩
    have ea10:=o10 _ _ (o9 _ _ (g68 _ _ ea) nas) nas
    refine⟨_,rfl,_,rfl,a,_,-2,_,rfl,rfl,SqT.of ea10,ef0,_,rfl,_,rfl,a,_,-1,_,rfl,rfl,SqT.of ea10,el0,by show 4<=sizeLine;decide,λa2 na2=>?_⟩
    walk_at "d"
    obtain⟨g11,e11⟩:=laid (o:=.tup [V.str w,.ref p,.int f0,.int l0]) na2
    have nps:p≠s:=λz=>by obtain⟨zs,e⟩:=hs9.lst;rw [z,e]at np;cases np
    refine hR _ _ ⟨a2,.gth w xs f0 l0,_,rfl,(jF ns (jF ns (g6.trans g68) o9) o10).trans g11,⟨p,e11,g11 _ _ ep⟩,⟨hw,⟨List.length_pos_iff.mpr hne,by omega,(List.nodup_append.mp (hpm.nodup_iff.mpr hss.2.1)).1,λk hk=>hss.2.2 k (hpm.mem_iff.mp (List.mem_append_left _ hk))⟩,hd⟩,⟨λk hk=>hpm.mem_iff.mp (List.mem_append_left _ hk),d1,d3⟩,by show 2 < 3;decide,g11 _ _ (o10 _ _ (o9 _ _ (g68 _ _ etb6) ntbs) ntbs)⟩
   ·rw [decide_eq_false h3]
    refine⟨_,rfl,aZ (aA ?_)⟩
    exact hR _ _ ⟨a,l,none,rfl,g6.trans g7,hln6.keep g7,okl,hin,by omega,g7 _ _ etb6⟩
  obtain⟨a,l,v6,rfl,g7,hln,okl,hin,h3,etb⟩:=hh
  clear o3 o5 o6 hs1 hs2 hs3 hs4 hs5 hs6 g1 g2 g3 g4 g5 g6
  refine ag (aC ⟨_,rfl,a,l,rfl,okl,hln,λH8 g8=>⟨0,.leaf l,rfl,okl,by decide,λx H9 nx g9 qn=>?_⟩⟩)
  walk_at "d"
  have g79:=g8.trans g9
  have hx9:LfX c l H9 x:=LfX.keep (show LfX c l (wo H8 H9) x from qn) (Kq.grow t8)
  refine ag (aC ⟨_,rfl,_,rfl,a,tb,l,rfl,⟨kvs,hln.keep g79,okl,h3,g79 _ _ etb,tv,λu ld rsd H10 g10 nu nld eu ad pd=>?_⟩⟩)
  refine⟨u,_,rfl,SqT.of eu,rfl,_,_,rfl,_,_,rfl,rfl,?_⟩
  walk_at "d"
  refine ag (aC ⟨by show 0<=sizeLine;decide,λla nla=>?_⟩)
  walk_at "d"
  obtain⟨g11,e11⟩:=laid (o:=.lst []) nla
  have g0:bh H (upd H10 la (.lst [])):=((g7.trans g79).trans g10).trans g11
  have hx11:LfX c l (upd H10 la (.lst [])) x:=hx9.keep (Kq.grow (g10.trans g11))
  have etb11:=g11 _ _ (g10 _ _ (g79 _ _ etb))
  have ad11:=ad.grow g11
  have n11:∀b o,H10 b=some o->b≠la:=λb o e=>ai e nla
  have nltb:tb≠la:=n11 _ _ (g10 _ _ (g79 _ _ etb))
  generalize hH11:upd H10 la (.lst [])=H11 at g11 e11 g0 hx11 etb11 ad11 ⊢
  have L11:Lm T H11:=L.gr g0
  obtain⟨dx,lnn,hxo,hxn⟩:=id hx11
  have nlnn:lnn≠la:=by
   obtain⟨_,ln9,h9o,h9n⟩:=hx9.keep (Kq.grow g10)
   have:=g11 _ _ h9o
   rw [hxo]at this
   have e:lnn=ln9:=by
    have e2:=congrArg (λo:Option HO=>match o with | some (.ins _ _ fs)=>fs.lookup ("names" : Str) | _=>none) this
    have e2:(oo l lnn).lookup ("names" : Str)=(oo l ln9).lookup ("names" : Str):=e2
    rw [show (oo l lnn).lookup ("names" : Str)=some (.ref lnn) from q_n _ _ _ _,show (oo l ln9).lookup ("names" : Str)=some (.ref ln9) from q_n _ _ _ _]at e2
    exact V.ref.inj (Option.some.inj e2)
   rw [e]
   exact n11 _ _ h9n
  have nxl:x≠la:=λz=>by rw [z,e11]at hxo;cases hxo
  refine ag (aH ⟨_,rfl,x,lfC c l,dx,_,zR c (lfK l),rfl,hxo,.mk l h3,vR ‹0›,_,rfl,_,rfl,tb,la,rfl,L11,λf H12 nf G12 T12=>?_⟩)
  have k12:∀b o,H11 b=some o->(∀ps,o≠.tbl ps)->H12 b=some o:=λb o e n=>G12.at L11 e n
  have hx12:LfX c l H12 x:=⟨dx,lnn,k12 _ _ hxo (λ_ z=>nomatch z),k12 _ _ hxn (λ_ z=>nomatch z)⟩
  have TA12:TeA f la tb kvs H12 []:=⟨T12,k12 _ _ etb11 (λ_ z=>nomatch z),⟨k12 _ _ e11 (λ_ z=>nomatch z),λr hr=>by cases hr⟩⟩
  have ad12:Askd H12 ld rsd:=by
   obtain⟨b1,b2⟩:=ad11
   exact⟨k12 _ _ b1 (λ_ z=>nomatch z),λr hr=>k12 _ _ (b2 r hr) (λ_ z=>nomatch z)⟩
  have nld:ld≠la:=by
   obtain⟨b1,_⟩:=ad
   exact n11 _ _ b1
  refine⟨x,f,l,rfl,rfl,h3,la,tb,kvs,[],hx12,okl,TA12,tv.ok,by decide,λrs13 H13 o13 a13 p13=>?_⟩
  have p13:prs rs13=sC l:=p13
  refine⟨_,rfl,_,_,rfl,iZ tv,iZ tv,?_⟩
  rw [decide_eq_true rfl]
  refine⟨_,rfl,aZ (aA ?_)⟩
  dsimp only
  have L13:Lm T H13:=by
   obtain⟨c1,_⟩:=id TA12
   obtain⟨_,_,⟨b1,_⟩⟩:=TA12
   exact Lm.of G12.lam o13 b1
  have G13:Gm T H H13:=⟨λb o n e=>o13 _ _ (G12.same b o n (g0 _ _ e)) (λz=>by rw [<- hH11]at g0;have:=ai (((g7.trans g79).trans g10) _ _ e) nla;exact this z),L13⟩
  have hx13:LfX c l H13 x:=by
   obtain⟨_,_,_,_⟩:=hx12
   exact⟨dx,lnn,o13 _ _ (k12 _ _ hxo (λ_ z=>nomatch z)) nxl,o13 _ _ (k12 _ _ hxn (λ_ z=>nomatch z)) nlnn⟩
  have ad13:Askd H13 ld rsd:=by
   obtain⟨b1,b2⟩:=ad12
   obtain⟨_,_,⟨c1,_⟩⟩:=TA12
   exact⟨o13 _ _ b1 nld,λr hr=>o13 _ _ (b2 r hr) λz=>by have:=b2 r hr;rw [z,c1]at this;cases this⟩
  have etb13:H13 tb=some (.dT kvs):=o13 _ _ (k12 _ _ etb11 (λ_ z=>nomatch z)) nltb
  obtain⟨al,at'⟩:=id a13
  have few:wU (rs13.map dR):=B7 (qC huni) λp hp=>(mD hin okl p (by rw [<- p13];exact hp)).1
  refine aD ⟨_,rfl,la,rs13.map dR,rfl,(by rw [List.map_map];exact al),(λz hz=>by obtain⟨r,hr,rfl⟩:=List.mem_map.mp hz;exact at' r hr),few,λsp nsp=>?_⟩
  rw [wx]
  obtain⟨g14,e14⟩:=laid (o:=.ext (eB P w sp (eO w) ((ddR rs13).map dR))) nsp
  have hdd:=mN _ rs13 rfl
  change rSortS _ _ _ (upd H13 sp (.ext (eB P w sp (eO w) ((ddR rs13).map dR)))) _
  generalize upd H13 sp _=H14 at g14 e14 ⊢
  have hddl:(ddR rs13).length<=sizeLine:=by
   have h1:=qX (u:=rL ss lo wd) hdd.nd λy hy=>by
    obtain⟨r,hr,rfl⟩:=List.mem_map.mp hy
    exact(mD hin okl r.1 (by rw [<- p13];exact List.mem_map_of_mem (hdd.sub r hr))).1
   rw [List.length_map]at h1
   have h2:=qC (lo:=lo) huni
   exact Nat.le_trans (show _<=1000 by omega) (by decide)
  refine⟨sp,ddR rs13,rfl,e14,λr hr=>g14 _ _ (at' r (hdd.sub r hr)),hddl,λD rs3 nD p3 s3=>?_⟩
  obtain⟨g15,e15⟩:=laid (o:=.lst (rs3.map λr=>V.ref r.2)) nD
  generalize upd H14 D _=H15 at g15 e15 ⊢
  have g135:=g14.trans g15
  obtain⟨b1,b2⟩:=id (ad13.grow g135)
  refine⟨_,rfl,ld,rsd,rfl,b1,b2,λD2 rs4 nD2 p4 s4=>?_⟩
  obtain⟨g16,e16⟩:=laid (o:=.lst (rs4.map λr=>V.ref r.2)) nD2
  generalize upd H15 D2 _=H16 at g16 e16 ⊢
  have g136:=g135.trans g16
  have a3:Askd H16 D rs3:=⟨g16 _ _ e15,λr hr=>g136 _ _ (at' r (hdd.sub r (p3.mem_iff.mp hr)))⟩
  have a4:Askd H16 D2 rs4:=⟨e16,λr hr=>g16 _ _ (b2 r (p4.mem_iff.mp hr))⟩
  have esame:=nA (p13.trans pd.symm) (by rw [pd];exact yk okl) p3 s3 p4 s4
  have ok4:PySem.W.kqdOk 9 (.list ((prs rs4).map yr))=true:=yq λp hp=>by
   obtain⟨r,hr,rfl⟩:=List.mem_map.mp hp
   exact(mD hin okl r.1 (by rw [<- pd];exact List.mem_map_of_mem (p4.mem_iff.mp hr))).2
  refine⟨_,_,oS a3,oS a4,by rw [esame];exact ok4,ok4,true,⟨λ_=>by rw [esame],λ_=>rfl⟩,?_⟩
  refine⟨true,rfl,bB ?_⟩
  have hx16:=hx13.keep (Kq.grow g136)
  obtain⟨dx',ln',hxo',hxn'⟩:=id hx16
  refine⟨_,rfl,x,lfC c l,dx',_,rR c (lfK l),rfl,hxo',.mk l h3,vR ‹0›,_,rfl,by show 0<=sizeLine;decide,λl2 nl2=>?_⟩
  obtain⟨g17,e17⟩:=laid (o:=.lst []) nl2
  have hx17:LfX c l (upd H16 l2 (.lst [])) x:=hx16.keep (Kq.grow g17)
  have L17:Lm T (upd H16 l2 (.lst [])):=L13.gr (g136.trans g17)
  have etb17:=g17 _ _ (g136 _ _ etb13)
  have hn17:∀b o,H16 b=some o->b≠l2:=λb o e=>ai e nl2
  generalize upd H16 l2 (.lst [])=H17 at g17 e17 hx17 L17 etb17 ⊢
  refine⟨tb,l2,rfl,L17,λf2 H18 nf2 G18 T18=>?_⟩
  have k18:∀b o,H17 b=some o->(∀ps,o≠.tbl ps)->H18 b=some o:=λb o e n=>G18.at L17 e n
  have hx18:LfX c l H18 x:=by
   obtain⟨d1,n1,q1,q2⟩:=hx17
   exact⟨d1,n1,k18 _ _ q1 (λ_ z=>nomatch z),k18 _ _ q2 (λ_ z=>nomatch z)⟩
  have T18':TeA f2 l2 tb kvs H18 []:=⟨T18,k18 _ _ etb17 (λ_ z=>nomatch z),⟨k18 _ _ e17 (λ_ z=>nomatch z),λr hr=>by cases hr⟩⟩
  refine⟨x,f2,l,rfl,rfl,l2,tb,kvs,[],hx18,okl,T18',tv.ok,by decide,λrs19 H19 o19 a19 _=>?_⟩
  refine⟨_,rfl,_,_,rfl,iZ tv,iZ tv,?_⟩
  rw [decide_eq_true rfl]
  obtain⟨_,_,⟨c18,_⟩⟩:=T18'
  refine q H19 ⟨λb o n e=>o19 _ _ (G18.same b o n (g17 _ _ (g136 _ _ (G13.same b o n e)))) ?_,Lm.of G18.lam o19 c18⟩
  exact hn17 _ _ (g136 _ _ (G13.same b o n e))
noncomputable def qI (K:PySem.W.Frag) (T:Addr):Sp:=λvs H Q _=>∃(a:Addr) (ns:List Int),vs=[.ref a]/\Lm T H/\SqL K H a (ns.map V.int)/\ns.length<=63/\∀H',Q (.bl true) H'
theorem zP {K:W.Frag}{T a:Addr}{H H':Hp}{xs:List V} (h:SqL K H a xs) (L:Lm T H) (G:Gm T H H'):SqL K H' a xs:=by
 rcases h with(h | ⟨o,h⟩) | h
 ·exact .inl (.inl (G.at L h (λ_ z=>nomatch z)))
 ·exact .inl (.inr ⟨o,G.at L h (λ_ z=>nomatch z)⟩)
 ·exact .inr h
theorem yT:FnScope ["_law_script", "_law_k"] ["_law_script"] (aq rY):=‹2›
theorem AE {f f1 f2 T:Addr}{fd:FuncData} (F:Fun K "law" "law" rY f fd) (N:Free mg){fd1:FuncData} (CC:Cal P w K mg base "_law_cell" 1 ["_law_script", "_law_k"] (uc K) f1 fd1){fd2:FuncData} (CG:Cal P w K mg base "_law_good" 14 ["_law_cell_here"] (ub T) f2 fd2):FnOk P w K mg base CX0 15 f fd ["_law_script"] (qI K T):=by
 refine F.ok (k:=14) yT (λvs H Q E h=>?_) (λcdv A outer s H vs Q E hr h=>?_)
 ·obtain⟨sa,ns,rfl,_⟩:=h
  rfl
 ·obtain⟨sa,ns,rfl,L,hS,h63,q⟩:=h
  have hu:=aL hr
  refine⟨_,(af (eJ PassesOwn.never rfl (dt rfl N.range (aa (aG (sU rfl) (by rfl) N.max PyProof.Rows.Boot.«max» (aa au (aa (aG (iy rfl) (by rfl) N.min PyProof.Rows.Boot.«min» (aa (aG aO (by rfl) N.len PySem.boot_len (aa (pv 0) ae)) (aa au ae))) ae))) ae)) (bC (i:=1) yT.nd rfl (Or.inl rfl))
   (ao (bt (gh (eG (aw CG.ok (hr.mono (by decide)) rfl CG.nm CG.kp CG.bd .nil av (aa (aw CC.ok (hr.mono (by decide)) rfl CC.nm CC.kp CC.bd .nil av (aa (pv 0) (aa (pv 1) ae))) ae)))) (ao (ay qU)) aI)))
   (ao (ay qU))),?_⟩
  refine ag ?_
  refine⟨_,rfl,sa,_,rfl,.inl hS,_,_,rfl,_,_,rfl,?_⟩
  rw [List.length_map]
  have hr1:∀x:Int,x<=10->(if x > 2 then x else 2)<=10:=λx h=>by split <;> omega
  have hr2:(if (10:Int) < (ns.length:Int) then 10 else (ns.length:Int))<=10:=by split <;> omega
  have hr3:=hr1 _ hr2
  have hr4:2<=(if (if (10:Int) < (ns.length:Int) then 10 else (ns.length:Int)) > 2 then (if (10:Int) < (ns.length:Int) then 10 else (ns.length:Int)) else 2):=by split <;> omega
  generalize (if (if (10:Int) < (ns.length:Int) then 10 else (ns.length:Int)) > 2 then (if (10:Int) < (ns.length:Int) then 10 else (ns.length:Int)) else 2)=m at hr3 hr4 ⊢
  refine⟨m,rfl,by omega,by omega,eg (lo:=0) (n:=m.toNat) (λi σ H2=>Lm T H2/\SqL K H2 sa (ns.map V.int)/\∃v1,σ=[some (.ref sa),v1]) ⟨L,hS,none,rfl⟩ (λk σ H2 hk hh=>?_) λσ H2 hh=>?_⟩
  ·obtain⟨L2,hS2,v1,rfl⟩:=hh
   walk_at "d"
   rw [Int.zero_add]
   refine aH ⟨_,rfl,_,rfl,sa,ns,_,rfl,hS2,by omega,by omega,λc1=>⟨c1,rfl,L2,λH3 G3=>⟨_,rfl,aZ (aA ?_)⟩⟩⟩
   exact⟨G3.lam,zP hS2 L2 G3,_,rfl⟩
  ·obtain⟨L2,hS2,v1,rfl⟩:=hh
   dsimp only
   refine aD ?_
   exact q H2
theorem ar1 {P:List Value->Prop} (h:∀a,P [a]):∀us:List Value,us.length=1->P us:=λus e=>by
 obtain⟨a,rfl⟩:=List.length_eq_one_iff.mp e
 exact h a
theorem ar2 {P:List Value->Prop} (h:∀x1 x2,P [x1,x2]) (us:List Value) (e:us.length=2):P us:=by
 cases us with
 | nil=>cases e
 | cons a t=>exact ar1 (P:=λt=>P (a::t)) (λx1=>h a x1) t (Nat.succ.inj e)
theorem ar3 {P:List Value->Prop} (h:∀x1 x2 x3,P [x1,x2,x3]) (us:List Value) (e:us.length=3):P us:=by
 cases us with
 | nil=>cases e
 | cons a t=>exact ar2 (P:=λt=>P (a::t)) (λx1 x2=>h a x1 x2) t (Nat.succ.inj e)
theorem ar4 {P:List Value->Prop} (h:∀x1 x2 x3 x4,P [x1,x2,x3,x4]) (us:List Value) (e:us.length=4):P us:=by
 cases us with
 | nil=>cases e
 | cons a t=>exact ar3 (P:=λt=>P (a::t)) (λx1 x2 x3=>h a x1 x2 x3) t (Nat.succ.inj e)
theorem ar5 {P:List Value->Prop} (h:∀x1 x2 x3 x4 x5,P [x1,x2,x3,x4,x5]) (us:List Value) (e:us.length=5):P us:=by
 cases us with
 | nil=>cases e
 | cons a t=>exact ar4 (P:=λt=>P (a::t)) (λx1 x2 x3 x4=>h a x1 x2 x3 x4) t (Nat.succ.inj e)
theorem ar6 {P:List Value->Prop} (h:∀x1 x2 x3 x4 x5 x6,P [x1,x2,x3,x4,x5,x6]) (us:List Value) (e:us.length=6):P us:=by
 cases us with
 | nil=>cases e
 | cons a t=>exact ar5 (P:=λt=>P (a::t)) (λx1 x2 x3 x4 x5=>h a x1 x2 x3 x4 x5) t (Nat.succ.inj e)
noncomputable def mG (f:Addr):Option (Option Value)->Bool
 | some (some (.ref g))=>decide (g=f)
 | _=>false
noncomputable def qg (n:String):Option (Option Value)->Bool
 | some (some (.builtin m))=>decide (m=n)
 | _=>false
noncomputable def zj:Option (Option Value)->Bool
 | some none=>true
 | _=>false
noncomputable def w6:Option Bool->Bool
 | some true=>true
 | _=>false
theorem iu {f:Addr}:∀{x:Option (Option Value)},mG f x=true->x=some (some (.ref f))
 | some (some (.ref g)),h=>by rw [of_decide_eq_true (show decide (g=f)=true from h)]
theorem lm {n:String}:∀{x:Option (Option Value)},qg n x=true->x=some (some (.builtin n))
 | some (some (.builtin m)),h=>by rw [of_decide_eq_true (show decide (m=n)=true from h)]
theorem w8:∀{x:Option (Option Value)},zj x=true->x=some none
 | some none,_=>rfl
theorem oy:∀{x:Option Bool},w6 x=true->x=some true
 | some true,_=>rfl
noncomputable def quB (K:PySem.W.Frag) (fT fA fD CQ C:Addr):Bool:=PySem.W.plainGet K C Str.empty && (PySem.W.hasDictIn K C && (PySem.W.plainOver K C && (qg "object.__setattr__" (PySem.W.findIn K (.ref C) "__setattr__") && (cW.all (λf=>zj (PySem.W.findIn K (.ref C) f)) && (mG fT (PySem.W.findIn K (.ref C) "text") && (mG fA (PySem.W.findIn K (.ref C) "asked_keys") && (mG fD (PySem.W.findIn K (.ref C) "depth") && (qg "object.__class__" (PySem.W.findIn K (.ref C) "__class__") && (w6 (PySem.W.mroIn K C (.type "object")) && w6 (PySem.W.kitOne K (.ref C) (.ref CQ)))))))))))
structure QuF (K:PySem.W.Frag) (fT fA fD CQ C:Addr):Prop where
 qu:QuC K C
 tx:‹(K,C,fT,"text")›
 ak:‹(K,C,fA,"asked_keys")›
 dp:‹(K,C,fD,"depth")›
 ha:PySem.W.findIn K (.ref C) "__class__" = some (some (.builtin "object.__class__"))
 hm:PySem.W.mroIn K C (.type "object")=some true
 kt:PySem.W.kitOne K (.ref C) (.ref CQ)=some true
theorem fg {K:W.Frag}{fT fA fD CQ C:Addr} (h:quB K fT fA fD CQ C=true):QuF K fT fA fD CQ C:=by
 unfold quB at h
 simp only [Bool.and_eq_true]at h
 obtain⟨h1,h2,h3,h4,h5,h6,h7,h8,h9,h10,h11⟩:=h
 exact⟨⟨⟨h1,h2,h3,lm h4⟩,λf hf=>w8 (List.all_eq_true.mp h5 f hf)⟩,iu h6,iu h7,iu h8,lm h9,oy h10,oy h11⟩
noncomputable def tQ:Value->Option Str
 | .str x _=>some x
 | _=>none
noncomputable def AV:Value->Bool
 | .type n=>decide (n = "tuple")
 | _=>false
noncomputable def Cu (ws:List Str):PySem.Data->Bool
 | .seq its _=>decide (its.toList.map tQ=ws.map some)
 | _=>false
noncomputable def rO (K:PySem.W.Frag) (a:Addr) (ws:List Str):Bool:=match K.lookup a with
 | some o=>AV o.cls && Cu ws o.data
 | none=>false
theorem kN:∀{us:List Value}{ws:List Str},us.map tQ=ws.map some->aM (ws.map V.str) us
 | [],[],_=>.nil
 | u::us,w::ws,h=>by
  obtain⟨h1,h2⟩:=List.cons.inj h
  refine .cons ?_ (kN h2)
  cases u with
  | str x t=>exact⟨t,by rw [Option.some.inj h1]⟩
  | _=>cases h1
 | [],w::ws,h=>by cases h
 | u::us,[],h=>by cases h
theorem lP {K:W.Frag}{a:Addr}{ws:List Str} (hl:ws.length<=100) (h:rO K a ws=true) (H:Hp):SqT K H a (ws.map V.str):=by
 unfold rO at h
 cases e:K.lookup a with
 | none=>rw [e]at h;cases h
 | some o=>
  rw [e]at h
  rw [Bool.and_eq_true]at h
  obtain⟨h1,h2⟩:=h
  have hc:o.cls=.type "tuple":=by
   cases z:o.cls with
   | type n=>rw [z]at h1;rw [of_decide_eq_true (show decide (n = "tuple")=true from h1)]
   | _=>rw [z]at h1;cases h1
  cases z:o.data with
  | seq its n=>
   rw [z]at h2
   have h3:=of_decide_eq_true (show decide (its.toList.map tQ=ws.map some)=true from h2)
   have hz:=congrArg List.length h3
   rw [List.length_map,List.length_map,Array.length_toList]at hz
   exact .inr ⟨o,its,n,e,hc,z,Nat.le_trans (show its.size<=100 by omega) (by decide),kN h3⟩
  | _=>rw [z]at h2;cases h2
theorem all_mk {l:PySem.W.OpenLaw}{w:World}{K:W.Frag}{h:Heap}{mg:Str->Option Value}{fa cT L R CQ CB c1 c2 c3 c4 c5 c6 c7 c8 t1 t2 t3 t4 f1 f2 f3 f4 f5 f6 f7 f8 f9 f10 f11 f12 f13 f14 f15 f16 f17 f18 f19 f20 f21 f22 f23 f24 f25 f26 f27 f28 f29 f30 f31 f32 f33 f34 f35 f36 f37 f38 f39 f40 f41 f42 f43 f44 f45 f46 f47 f48 f49 f50 f51 f52 f53 f54 f55 f56 f57 f58:Addr}{d1 d2 d3 d4 d5 d6 d7 d8 d9 d10 d11 d12 d13 d14 d15 d16 d17 d18 d19 d20 d21 d22 d23 d24 d25 d26 d27 d28 d29 d30 d31 d32 d33 d34 d35 d36 d37 d38 d39 d40 d41 d42 d43 d44 d45 d46 d47 d48 d49 d50 d51 d52 d53 d54 d55 d56 d57 d58:FuncData}{odT anT:Option Addr}{slT:Array (Option Value)}{ocT kVT dcT pmT ctT:Value} (X:K.In h) (G:h.Ns mainGlobals mg) (hfa:mg "law" = some (.ref fa))
  (amR:‹(K,R,"Reader")›)
  (amCQ:‹(K,CQ,"Question")›)
  (amCB:‹(K,CB,"Bracketed")›)
  (amc1:‹(K,c1,"Number")›)
  (amc2:‹(K,c2,"Value")›)
  (amc3:‹(K,c3,"Gathering")›)
  (amc4:‹(K,c4,"Since")›)
  (amc5:‹(K,c5,"Part")›)
  (amc6:‹(K,c6,"Change")›)
  (amc7:‹(K,c7,"Reckoning")›)
  (amc8:‹(K,c8,"Choice")›)
  (a1:‹(K,f1,"law")›) (F1:Fun K "law" "law" rY f1 d1)
  (a2:‹(K,f2,"_law_cell")›) (F2:Fun K "_law_cell" "_law_cell" uP f2 d2)
  (a3:‹(K,f3,"_law_good")›) (F3:Fun K "_law_good" "_law_good" uM f3 d3)
  (a4:‹(K,c1,f4,"plain")›) (i4:‹[K,f4]›) (F4:Fun K "plain" "Number.plain" pD f4 d4)
  (a5:‹(K,c2,f5,"plain")›) (i5:‹[K,f5]›) (F5:Fun K "plain" "Value.plain" pB f5 d5)
  (a6:‹(K,c3,f6,"plain")›) (i6:‹[K,f6]›) (F6:Fun K "plain" "Gathering.plain" pE f6 d6)
  (a7:‹(K,f7,"tellings")›) (F7:Fun K "tellings" "tellings" i8 f7 d7)
  (a8:‹(K,f8,"gathered")›) (F8:Fun K "gathered" "gathered" ie f8 d8)
  (a9:‹(K,CQ,f9,"read")›) (i9:‹[K,f9]›) (F9:Fun K "read" "Question.read" pA f9 d9)
  (a10:‹(K,f10,"_law_begun")›) (F10:Fun K "_law_begun" "_law_begun" pP f10 d10)
  (a11:‹(K,f11,"_law_names")›) (F11:Fun K "_law_names" "_law_names" pG f11 d11)
  (a12:‹(K,f12,"_law_pull")›) (F12:Fun K "_law_pull" "_law_pull" uw f12 d12)
  (a13:‹(K,f13,"_law_mix")›) (F13:Fun K "_law_mix" "_law_mix" A9 f13 d13)
  (a14:‹(K,f14,"_law_window")›) (F14:Fun K "_law_window" "_law_window" lZ f14 d14)
  (a15:‹(K,f15,"_law_table")›) (F15:Fun K "_law_table" "_law_table" pz f15 d15)
  (a16:‹(K,f16,"_law_days")›) (F16:Fun K "_law_days" "_law_days" uN f16 d16)
  (a17:‹(K,f17,"_law_amount")›) (F17:Fun K "_law_amount" "_law_amount" md f17 d17)
  (a18:‹(K,f18,"_law_leaf")›) (F18:Fun K "_law_leaf" "_law_leaf" pH f18 d18)
  (a19:‹(K,f19,"_law_some")›) (F19:Fun K "_law_some" "_law_some" uu f19 d19)
  (a20:‹(K,f20,"question_of")›) (F20:Fun K "question_of" "question_of" A8 f20 d20)
  (a21:‹(K,R,f21,"__init__")›) (i21:‹[K,f21]›) (F21:Fun K "__init__" "Reader.__init__" pJ f21 d21)
  (a22:‹(K,f22,"question_here")›) (F22:Fun K "question_here" "question_here" sQh f22 d22)
  (a23:‹(K,f23,"questions_here")›) (F23:Fun K "questions_here" "questions_here" uv f23 d23)
  (a24:‹(K,R,f24,"beginning_here")›) (i24:‹[K,f24]›) (F24:Fun K "beginning_here" "Reader.beginning_here" Af f24 d24)
  (a25:‹(K,R,f25,"here")›) (i25:‹[K,f25]›) (F25:Fun K "here" "Reader.here" uL f25 d25)
  (a26:‹(K,R,f26,"go_on")›) (i26:‹[K,f26]›) (F26:Fun K "go_on" "Reader.go_on" sGo f26 d26)
  (a27:‹(K,R,f27,"day_here")›) (i27:‹[K,f27]›) (F27:Fun K "day_here" "Reader.day_here" uO f27 d27)
  (a28:‹(K,R,f28,"number_here")›) (i28:‹[K,f28]›) (F28:Fun K "number_here" "Reader.number_here" uz f28 d28)
  (a29:‹(K,f29,"number_of")›) (F29:Fun K "number_of" "number_of" m8 f29 d29)
  (a30:‹(K,f30,"has_only")›) (F30:Fun K "has_only" "has_only" Ac f30 d30)
  (a31:‹(K,R,f31,"keys_here")›) (i31:‹[K,f31]›) (F31:Fun K "keys_here" "Reader.keys_here" pI f31 d31)
  (a32:‹(K,f32,"are_keys")›) (F32:Fun K "are_keys" "are_keys" jw f32 d32)
  (a33:‹(K,f33,"is_name")›) (F33:Fun K "is_name" "is_name" uC f33 d33)
  (a34:‹(K,f34,"single_here")›) (F34:Fun K "single_here" "single_here" m7 f34 d34)
  (a35:‹(K,R,f35,"value_here")›) (i35:‹[K,f35]›) (F35:Fun K "value_here" "Reader.value_here" ur f35 d35)
  (a36:‹(K,R,f36,"key_here")›) (i36:‹[K,f36]›) (F36:Fun K "key_here" "Reader.key_here" uE f36 d36)
  (a37:‹(K,c1,f37,"__init__")›) (i37:‹[K,f37]›) (F37:Fun K "__init__" "Number.__init__" uI f37 d37)
  (a38:‹(K,CQ,f38,"__init__")›) (i38:‹[K,f38]›) (F38:Fun K "__init__" "Question.__init__" pK f38 d38)
  (a39:‹(K,f39,"each_once")›) (F39:Fun K "each_once" "each_once" uy f39 d39)
  (a40:‹(K,c2,f40,"__init__")›) (i40:‹[K,f40]›) (F40:Fun K "__init__" "Value.__init__" uF f40 d40)
  (a41:‹(K,c4,f41,"__init__")›) (i41:‹[K,f41]›) (F41:Fun K "__init__" "Since.__init__" uG f41 d41)
  (a42:‹(K,c5,f42,"__init__")›) (i42:‹[K,f42]›) (F42:Fun K "__init__" "Part.__init__" uH f42 d42)
  (a43:‹(K,c6,f43,"__init__")›) (i43:‹[K,f43]›) (F43:Fun K "__init__" "Change.__init__" uK f43 d43)
  (a44:‹(K,c3,f44,"__init__")›) (i44:‹[K,f44]›) (F44:Fun K "__init__" "Gathering.__init__" uJ f44 d44)
  (a45:‹(K,c7,f45,"__init__")›) (i45:‹[K,f45]›) (F45:Fun K "__init__" "Reckoning.__init__" pL f45 d45)
  (a46:‹(K,CB,f46,"__init__")›) (i46:‹[K,f46]›) (F46:Fun K "__init__" "Bracketed.__init__" pN f46 d46)
  (a47:‹(K,CQ,f47,"text")›) (i47:‹[K,f47]›) (F47:Fun K "text" "Question.text" ut f47 d47)
  (a48:‹(K,CQ,f48,"asked_keys")›) (i48:‹[K,f48]›) (F48:Fun K "asked_keys" "Question.asked_keys" pQ f48 d48)
  (a49:‹(K,CQ,f49,"depth")›) (i49:‹[K,f49]›) (F49:Fun K "depth" "Question.depth" pO f49 d49)
  (a50:‹(K,c8,f50,"__init__")›) (i50:‹[K,f50]›) (F50:Fun K "__init__" "Choice.__init__" pM f50 d50)
  (a51:‹(K,R,f51,"bracket_opens")›) (i51:‹[K,f51]›) (F51:Fun K "bracket_opens" "Reader.bracket_opens" pF f51 d51)
  (a52:‹(K,R,f52,"bracket_closes")›) (i52:‹[K,f52]›) (F52:Fun K "bracket_closes" "Reader.bracket_closes" ma f52 d52)
  (a53:‹(K,R,f53,"check_end")›) (i53:‹[K,f53]›) (F53:Fun K "check_end" "Reader.check_end" Ad f53 d53)
  (a54:‹(K,f54,"_law_text")›) (F54:Fun K "_law_text" "_law_text" Aa f54 d54)
  (a55:‹(K,f55,"_law_due")›) (F55:Fun K "_law_due" "_law_due" Ae f55 d55)
  (a56:‹(K,f56,"_law_over")›) (F56:Fun K "_law_over" "_law_over" ux f56 d56)
  (a57:‹(K,f57,"_law_like")›) (F57:Fun K "_law_like" "_law_like" uD f57 d57)
  (a58:‹(K,f58,"_law_telling")›) (F58:Fun K "_law_telling" "_law_telling" bQ f58 d58)
  (lkT:K.lookup f58=some ⟨ocT,odT,.func (PySem.W.fnOf "_law_telling" "_law_telling" (dl bQ) (cE bQ) (aq bQ) .none kVT dcT pmT anT (.ref cT) ctT),slT⟩)
  (wread1:‹(K,c1,f9,"read")›)
  (wread2:‹(K,c2,f9,"read")›)
  (wread3:‹(K,c3,f9,"read")›)
  (mkR:PySem.W.makesIn K R=true) (kpR:PySem.W.keepIn K (.ref R)=true)
  (mkc1:PySem.W.makesIn K c1=true) (kpc1:PySem.W.keepIn K (.ref c1)=true)
  (mkc2:PySem.W.makesIn K c2=true) (kpc2:PySem.W.keepIn K (.ref c2)=true)
  (mkc3:PySem.W.makesIn K c3=true) (kpc3:PySem.W.keepIn K (.ref c3)=true)
  (mkc4:PySem.W.makesIn K c4=true) (kpc4:PySem.W.keepIn K (.ref c4)=true)
  (mkc5:PySem.W.makesIn K c5=true) (kpc5:PySem.W.keepIn K (.ref c5)=true)
  (mkc6:PySem.W.makesIn K c6=true) (kpc6:PySem.W.keepIn K (.ref c6)=true)
  (mkc7:PySem.W.makesIn K c7=true) (kpc7:PySem.W.keepIn K (.ref c7)=true)
  (mkc8:PySem.W.makesIn K c8=true) (kpc8:PySem.W.keepIn K (.ref c8)=true)
  (TR:RdC K R)
  (g1CQ:PySem.W.specialIn K (.ref CQ) "__getattribute__" = some (some (.builtin "type.__getattribute__"))) (g2CQ:PySem.W.readsIn K CQ (.type "type")=true) (g3CQ:PySem.W.findCls K (.ref CQ) (.type "type") "__init__" = some (.val (.ref f38)))
  (g1CB:PySem.W.specialIn K (.ref CB) "__getattribute__" = some (some (.builtin "type.__getattribute__"))) (g2CB:PySem.W.readsIn K CB (.type "type")=true) (g3CB:PySem.W.findCls K (.ref CB) (.type "type") "__init__" = some (.val (.ref f46)))
  (tyn:PySem.W.specialIn K (.builtin "object.__class__") "__get__" = some (some (.builtin "getset_descriptor.__get__"))) (tyk:PySem.W.takesIn K (.builtin "object.__class__")=some true)
  (qb1:quB K f47 f48 f49 CQ c1=true)
  (qb2:quB K f47 f48 f49 CQ c2=true)
  (qb3:quB K f47 f48 f49 CQ c3=true)
  (qb4:quB K f47 f48 f49 CQ c4=true)
  (qb5:quB K f47 f48 f49 CQ c5=true)
  (qb6:quB K f47 f48 f49 CQ c6=true)
  (qb7:quB K f47 f48 f49 CQ c7=true)
  (qb8:quB K f47 f48 f49 CQ c8=true)
  (tn1:‹(K,t1,"SINGLE")›) (tb1:rO K t1 iJ=true)
  (tn2:‹(K,t2,"GATHERING")›) (tb2:rO K t2 eQ=true)
  (tn3:‹(K,t3,"RECKONING")›) (tb3:rO K t3 eW=true)
  (tn4:‹(K,t4,"CHOICE")›) (tb4:rO K t4 fO=true)
  {tq1 tq2 tq3 tq4 tq5 tq6 tq7 tq8 tq9:Tok} (q1:PySem.W.nsIn K mainGlobals "LETTERS" = some (some (.str dk tq1))) (q2:PySem.W.nsIn K mainGlobals "FIGURES" = some (some (.str gU tq2))) (q3:PySem.W.nsIn K mainGlobals "MOST_LETTERS" = some (some (.int 8 tq3))) (q4:PySem.W.nsIn K mainGlobals "MOST_FIGURES" = some (some (.int 12 tq4))) (q5:PySem.W.nsIn K mainGlobals "LAST_DAY" = some (some (.int 399 tq5))) (q6:PySem.W.nsIn K mainGlobals "MOST_KEYS" = some (some (.int 8 tq6))) (q7:PySem.W.nsIn K mainGlobals "MOST_VALUE" = some (some (.int 1000000000 tq7))) (q8:PySem.W.nsIn K mainGlobals "MOST_OPEN" = some (some (.int 3 tq8))) (q9:PySem.W.nsIn K mainGlobals "MOST_RANK" = some (some (.int 400 tq9)))
  (z1:PySem.W.nsIn K mainGlobals "len" = some none) (z2:PySem.W.nsIn K mainGlobals "range" = some none) (z3:PySem.W.nsIn K mainGlobals "sorted" = some none) (z4:PySem.W.nsIn K mainGlobals "isinstance" = some none) (z5:PySem.W.nsIn K mainGlobals "int" = some none) (z6:PySem.W.nsIn K mainGlobals "bool" = some none) (z7:PySem.W.nsIn K mainGlobals "str" = some none) (z8:PySem.W.nsIn K mainGlobals "list" = some none) (z9:PySem.W.nsIn K mainGlobals "tuple" = some none) (z10:PySem.W.nsIn K mainGlobals "dict" = some none) (z11:PySem.W.nsIn K mainGlobals "set" = some none) (z12:PySem.W.nsIn K mainGlobals "max" = some none) (z13:PySem.W.nsIn K mainGlobals "min" = some none) (z14:PySem.W.nsIn K mainGlobals "all" = some none) (z15:PySem.W.nsIn K mainGlobals "enumerate" = some none) (z16:PySem.W.nsIn K mainGlobals "abs" = some none) (z17:PySem.W.nsIn K mainGlobals "reversed" = some none) (z18:PySem.W.nsIn K mainGlobals "sum" = some none) :
  ∃fd:FuncData,(∀(s:Shared) (v:Value),BindsTo s fd ⟨[v],[]⟩ [("_law_script", v)])/\∀base:Heap,K.In base->base.Ns mainGlobals mg->PySem.W.CodeHd base cT L->base.BuiltinsAt mg L->FnOk l.prog w K mg base CX0 15 fa fd ["_law_script"] (qI K L):=by
 have e:=hfa.symm.trans (PySem.W.mg_of X G a1)
 cases e
 have N:Free mg:=⟨PySem.W.mg_none_of X G z1,PySem.W.mg_none_of X G z2,PySem.W.mg_none_of X G z3,PySem.W.mg_none_of X G z4,PySem.W.mg_none_of X G z5,PySem.W.mg_none_of X G z6,PySem.W.mg_none_of X G z7,PySem.W.mg_none_of X G z8,PySem.W.mg_none_of X G z9,PySem.W.mg_none_of X G z10,PySem.W.mg_none_of X G z11,PySem.W.mg_none_of X G z12,PySem.W.mg_none_of X G z13,PySem.W.mg_none_of X G z14,PySem.W.mg_none_of X G z15,PySem.W.mg_none_of X G z16,PySem.W.mg_none_of X G z17,PySem.W.mg_none_of X G z18⟩
 have Z:Con mg:=⟨⟨_,PySem.W.mg_of X G q1⟩,⟨_,PySem.W.mg_of X G q2⟩,⟨_,PySem.W.mg_of X G q3⟩,⟨_,PySem.W.mg_of X G q4⟩,⟨_,PySem.W.mg_of X G q5⟩,⟨_,PySem.W.mg_of X G q6⟩,⟨_,PySem.W.mg_of X G q7⟩,⟨_,PySem.W.mg_of X G q8⟩,⟨_,PySem.W.mg_of X G q9⟩⟩
 have ZT:ConT K mg:=⟨⟨t1,PySem.W.mg_of X G tn1,lP (by decide) tb1⟩,⟨t2,PySem.W.mg_of X G tn2,lP (by decide) tb2⟩,⟨t3,PySem.W.mg_of X G tn3,lP (by decide) tb3⟩,⟨t4,PySem.W.mg_of X G tn4,lP (by decide) tb4⟩⟩
 have QB:∀C∈Cs.all (⟨c1,c2,c3,c4,c5,c6,c7,c8⟩:Cs),QuF K f47 f48 f49 CQ C:=λC hC=>by
  simp only [Cs.all,List.mem_cons,List.not_mem_nil,or_false]at hC
  rcases hC with rfl | rfl | rfl | rfl | rfl | rfl | rfl | rfl
  ·exact fg qb1
  ·exact fg qb2
  ·exact fg qb3
  ·exact fg qb4
  ·exact fg qb5
  ·exact fg qb6
  ·exact fg qb7
  ·exact fg qb8
 obtain⟨oc,od,kV,doc,pm,an,cdv,ct,osl,rfl,lk,hcd⟩:=id F1.ex
 refine⟨PySem.W.fnOf "law" "law" (dl rY) (cE rY) (aq rY) .none kV doc pm an cdv ct,λs v=>.of_eq rfl,λbase hK hN hC hB=>?_⟩
 have ky:∀{x:Str}{k:Nat}{ps:List Str}{sp:Sp}{f:Addr}{fd:FuncData},FnOk l.prog w K mg base CX0 k f fd ps sp->PySem.W.nsIn K mainGlobals x=some (some (.ref f))->PySem.W.keepIn K (.ref f)=true->cj K fd ps []->Cal l.prog w K mg base x k ps sp f fd:=λa b c d=>⟨a,PySem.W.mg_of X G b,c,d⟩
 have km:∀{m:Str}{k:Nat}{ps:List Str}{sp:Sp}{f:Addr}{fd:FuncData},FnOk l.prog w K mg base CX0 k f fd ps sp->PySem.W.findIn K (.ref R) m=some (some (.ref f))->‹[K,f]›->PySem.W.keepIn K (.ref f)=true->cj K fd ps []->MC l.prog w K mg base R m k ps [] [] sp f fd:=λa b c d e=>⟨TR.cl,⟨b,c,d⟩,a,e,.nil⟩
 have kc:∀{cn:Str}{k:Nat}{ps:List Str}{sp:Sp}{C f:Addr}{fd:FuncData},FnOk l.prog w K mg base CX0 k f fd ps sp->Mk K C f->PySem.W.nsIn K mainGlobals cn=some (some (.ref C))->cj K fd ps []->MkC l.prog w K mg base cn k ps sp C f fd:=λa b c d=>⟨b,a,PySem.W.mg_of X G c,d⟩
 have kg:∀{cn m:Str}{k:Nat}{ps:List Str}{sp:Sp}{C f:Addr}{fd:FuncData}{mc:Value},FnOk l.prog w K mg base CX0 k f fd ps sp->PySem.W.nsIn K mainGlobals cn=some (some (.ref C))->PySem.W.specialIn K (.ref C) "__getattribute__" = some (some (.builtin "type.__getattribute__"))->PySem.W.readsIn K C mc=true->PySem.W.findCls K (.ref C) mc m=some (.val (.ref f))->PySem.W.keepIn K (.ref f)=true->cj K fd ps []->CMc l.prog w K mg base cn m k ps sp C f fd mc:=λa b c d e g i=>⟨PySem.W.mg_of X G b,c,d,e,a,g,i⟩
 have K1:=ky (yd F2 N) a2 F2.kp (F2.binds λ_ _ _ _ _ _=>ar2 λ_ _=>rfl)
 have K2:=ky (nU F7 N) a7 F7.kp (F7.binds λ_ _ _ _ _ _=>ar4 λ_ _ _ _=>rfl)
 have K3:=ky (nV F8 N) a8 F8.kp (F8.binds λ_ _ _ _ _ _=>ar2 λ_ _=>rfl)
 have K4:∀C sp,VPl (⟨c1,c2,c3,c4,c5,c6,c7,c8⟩:Cs) C sp->MV l.prog w K mg base CX0 "plain" 4 ["self", "told"] sp C:=by
  rintro _ _ ⟨l0,h0⟩
  cases l0 with
  | num=>exact⟨(QB c1 (by simp [Cs.all])).qu.cl,f4,d4,⟨a4,i4,F4.kp⟩,(FnOk.mono (j:=1) (k:=4) (vt (c:=(⟨c1,c2,c3,c4,c5,c6,c7,c8⟩:Cs)) F4 (λC hC=>(QB C hC).qu)) (by decide)),(F4.binds λ_ _ _ _ _ _=>ar2 λ_ _=>rfl)⟩
  | val=>exact⟨(QB c2 (by simp [Cs.all])).qu.cl,f5,d5,⟨a5,i5,F5.kp⟩,(FnOk.mono (j:=2) (k:=4) (vq (c:=(⟨c1,c2,c3,c4,c5,c6,c7,c8⟩:Cs)) F5 (λC hC=>(QB C hC).qu)) (by decide)),(F5.binds λ_ _ _ _ _ _=>ar2 λ_ _=>rfl)⟩
  | gth=>exact⟨(QB c3 (by simp [Cs.all])).qu.cl,f6,d6,⟨a6,i6,F6.kp⟩,(vw (c:=(⟨c1,c2,c3,c4,c5,c6,c7,c8⟩:Cs)) F6 N (λC hC=>(QB C hC).qu) K2 K3),(F6.binds λ_ _ _ _ _ _=>ar2 λ_ _=>rfl)⟩
  | snc=>exact absurd h0 (by show ¬3 < 3;decide)
  | prt=>exact absurd h0 (by show ¬4 < 3;decide)
  | chg=>exact absurd h0 (by show ¬5 < 3;decide)
 have K5:∀C sp,VRd (⟨c1,c2,c3,c4,c5,c6,c7,c8⟩:Cs) C sp->MV l.prog w K mg base CX0 "read" 5 ["self", "told"] sp C:=by
  rintro _ _ ⟨l0,h0⟩
  cases l0 with
  | num=>exact⟨(QB c1 (by simp [Cs.all])).qu.cl,f9,d9,⟨wread1,i9,F9.kp⟩,(jE (c:=(⟨c1,c2,c3,c4,c5,c6,c7,c8⟩:Cs)) F9 K4),(F9.binds λ_ _ _ _ _ _=>ar2 λ_ _=>rfl)⟩
  | val=>exact⟨(QB c2 (by simp [Cs.all])).qu.cl,f9,d9,⟨wread2,i9,F9.kp⟩,(jE (c:=(⟨c1,c2,c3,c4,c5,c6,c7,c8⟩:Cs)) F9 K4),(F9.binds λ_ _ _ _ _ _=>ar2 λ_ _=>rfl)⟩
  | gth=>exact⟨(QB c3 (by simp [Cs.all])).qu.cl,f9,d9,⟨wread3,i9,F9.kp⟩,(jE (c:=(⟨c1,c2,c3,c4,c5,c6,c7,c8⟩:Cs)) F9 K4),(F9.binds λ_ _ _ _ _ _=>ar2 λ_ _=>rfl)⟩
  | snc=>exact absurd h0 (by show ¬3 < 3;decide)
  | prt=>exact absurd h0 (by show ¬4 < 3;decide)
  | chg=>exact absurd h0 (by show ¬5 < 3;decide)
 have K6:=ky (vI F10) a10 F10.kp (F10.binds λ_ _ _ _ _ _=>ar1 λ_=>rfl)
 have K7:=ky (AC F13) a13 F13.kp (F13.binds λ_ _ _ _ _ _=>ar2 λ_ _=>rfl)
 have K8:=ky (xQ F12 K7) a12 F12.kp (F12.binds λ_ _ _ _ _ _=>ar2 λ_ _=>rfl)
 have K9:=ky (vy F11 N K6 K8) a11 F11.kp (F11.binds λ_ _ _ _ _ _=>ar1 λ_=>rfl)
 have K10:=ky (sk F14 K8) a14 F14.kp (F14.binds λ_ _ _ _ _ _=>ar1 λ_=>rfl)
 have K11:=ky (yb F16 K8) a16 F16.kp (F16.binds λ_ _ _ _ _ _=>ar2 λ_ _=>rfl)
 have K12:=ky (sx F17 K8) a17 F17.kp (F17.binds λ_ _ _ _ _ _=>ar1 λ_=>rfl)
 have K13:=ky (vp F15 N K8 K11 K12) a15 F15.kp (F15.binds λ_ _ _ _ _ _=>ar3 λ_ _ _=>rfl)
 have K14:=ky (xP F19 N K8) a19 F19.kp (F19.binds λ_ _ _ _ _ _=>ar3 λ_ _ _=>rfl)
 have K15:=ky (vz F18 N K8 K14 K11 K12) a18 F18.kp (F18.binds λ_ _ _ _ _ _=>ar4 λ_ _ _ _=>rfl)
 have K16:=kc (vD F21 N TR) ⟨mkR,a21,i21,kpR⟩ amR (F21.binds λ_ _ _ _ _ _=>ar2 λ_ _=>rfl)
 have K17:=km (y9 F25 N TR) a25 i25 F25.kp (F25.binds λ_ _ _ _ _ _=>ar1 λ_=>rfl)
 have K18:=km (BS F26 N TR) a26 i26 F26.kp (F26.binds λ_ _ _ _ _ _=>ar2 λ_ _=>rfl)
 have K19:=km (AI F24 N ZT TR K17 K18) a24 i24 F24.kp (F24.binds λ_ _ _ _ _ _=>ar1 λ_=>rfl)
 have K20:=ky (AF F30 N) a30 F30.kp (F30.binds λ_ _ _ _ _ _=>ar3 λ_ _ _=>rfl)
 have K21:=ky (sr F29 N Z K20) a29 F29.kp (F29.binds λ_ _ _ _ _ _=>ar3 λ_ _ _=>rfl)
 have K22:=km (xT F28 N TR K17 K18 K21) a28 i28 F28.kp (F28.binds λ_ _ _ _ _ _=>ar3 λ_ _ _=>rfl)
 have K23:=km (yc F27 N Z TR K22) a27 i27 F27.kp (F27.binds λ_ _ _ _ _ _=>ar2 λ_ _=>rfl)
 have K24:=ky (xU F33 N Z K20) a33 F33.kp (F33.binds λ_ _ _ _ _ _=>ar1 λ_=>rfl)
 have K25:=ky (pW F32 N Z K24) a32 F32.kp (F32.binds λ_ _ _ _ _ _=>ar1 λ_=>rfl)
 have K26:=km (vC F31 N TR K17 K18 K25) a31 i31 F31.kp (F31.binds λ_ _ _ _ _ _=>ar1 λ_=>rfl)
 have K27:=km (xN F35 N Z TR K22) a35 i35 F35.kp (F35.binds λ_ _ _ _ _ _=>ar1 λ_=>rfl)
 have K28:=km (xW F36 N TR K17 K18 K24) a36 i36 F36.kp (F36.binds λ_ _ _ _ _ _=>ar1 λ_=>rfl)
 have K29:=ky (xS F39) a39 F39.kp (F39.binds λ_ _ _ _ _ _=>ar1 λ_=>rfl)
 have K30:=kg (vE F38 N K29) amCQ g1CQ g2CQ g3CQ F38.kp (F38.binds λ_ _ _ _ _ _=>ar4 λ_ _ _ _=>rfl)
 have K31:=kc (y0 F37 N K30) ⟨mkc1,a37,i37,kpc1⟩ amc1 (F37.binds λ_ _ _ _ _ _=>ar2 λ_ _=>rfl)
 have K32:=kc (xX F40 N K30) ⟨mkc2,a40,i40,kpc2⟩ amc2 (F40.binds λ_ _ _ _ _ _=>ar3 λ_ _ _=>rfl)
 have K33:=kc (xY F41 N K30) ⟨mkc4,a41,i41,kpc4⟩ amc4 (F41.binds λ_ _ _ _ _ _=>ar5 λ_ _ _ _ _=>rfl)
 have K34:=kc (xZ F42 N K30) ⟨mkc5,a42,i42,kpc5⟩ amc5 (F42.binds λ_ _ _ _ _ _=>ar5 λ_ _ _ _ _=>rfl)
 have K35:=kc (y8 F43 N K30) ⟨mkc6,a43,i43,kpc6⟩ amc6 (F43.binds λ_ _ _ _ _ _=>ar5 λ_ _ _ _ _=>rfl)
 have K36:=ky (sq (c:=(⟨c1,c2,c3,c4,c5,c6,c7,c8⟩:Cs)) F34 N Z (λC hC=>(QB C hC).qu) K27 K23 K28 K22 K31 K32 K33 K34 K35) a34 F34.kp (F34.binds λ_ _ _ _ _ _=>ar2 λ_ _=>rfl)
 have K37:=kc (y6 F44 N K30) ⟨mkc3,a44,i44,kpc3⟩ amc3 (F44.binds λ_ _ _ _ _ _=>ar5 λ_ _ _ _ _=>rfl)
 have K38:∀C∈Cs.all (⟨c1,c2,c3,c4,c5,c6,c7,c8⟩:Cs),MV l.prog w K mg base CX0 "text" 1 ["self"] (pb K) C:=λC hC=>⟨(QB C hC).qu.cl,f47,d47,⟨(QB C hC).tx,i47,F47.kp⟩,(xO F47),(F47.binds λ_ _ _ _ _ _=>ar1 λ_=>rfl)⟩
 have K39:∀C∈Cs.all (⟨c1,c2,c3,c4,c5,c6,c7,c8⟩:Cs),MV l.prog w K mg base CX0 "asked_keys" 1 ["self"] (lV K) C:=λC hC=>⟨(QB C hC).qu.cl,f48,d48,⟨(QB C hC).ak,i48,F48.kp⟩,(vJ F48 N),(F48.binds λ_ _ _ _ _ _=>ar1 λ_=>rfl)⟩
 have K40:∀C∈Cs.all (⟨c1,c2,c3,c4,c5,c6,c7,c8⟩:Cs),MV l.prog w K mg base CX0 "depth" 1 ["self"] (jm K) C:=λC hC=>⟨(QB C hC).qu.cl,f49,d49,⟨(QB C hC).dp,i49,F49.kp⟩,(su F49),(F49.binds λ_ _ _ _ _ _=>ar1 λ_=>rfl)⟩
 have K41:=kg (vH (c:=(⟨c1,c2,c3,c4,c5,c6,c7,c8⟩:Cs)) F46 N K30 (λC hC=>(QB C hC).qu) K38 K39 K40) amCB g1CB g2CB g3CB F46.kp (F46.binds λ_ _ _ _ _ _=>ar3 λ_ _ _=>rfl)
 have K42:=kc (vF (c:=(⟨c1,c2,c3,c4,c5,c6,c7,c8⟩:Cs)) F45 N K41) ⟨mkc7,a45,i45,kpc7⟩ amc7 (F45.binds λ_ _ _ _ _ _=>ar4 λ_ _ _ _=>rfl)
 have K43:=kc (vG (c:=(⟨c1,c2,c3,c4,c5,c6,c7,c8⟩:Cs)) F50 N K41) ⟨mkc8,a50,i50,kpc8⟩ amc8 (F50.binds λ_ _ _ _ _ _=>ar6 λ_ _ _ _ _ _=>rfl)
 have K44:=km (vx F51 N Z TR K17 K18) a51 i51 F51.kp (F51.binds λ_ _ _ _ _ _=>ar1 λ_=>rfl)
 have K45:=km (sw F52 N TR K17 K18) a52 i52 F52.kp (F52.binds λ_ _ _ _ _ _=>ar1 λ_=>rfl)
 have K46:=ky (AB (c:=(⟨c1,c2,c3,c4,c5,c6,c7,c8⟩:Cs)) F22 (PySem.W.mg_of X G a22) (F22.binds λ_ _ _ _ _ _=>ar1 λ_=>rfl) F23 (PySem.W.mg_of X G a23) (F23.binds λ_ _ _ _ _ _=>ar2 λ_ _=>rfl) N ZT (λC hC=>(QB C hC).qu) K19 K23 K26 K36 K37 K42 K43 K44 K45) a22 F22.kp (F22.binds λ_ _ _ _ _ _=>ar1 λ_=>rfl)
 have K47:=km (AG F53 N TR) a53 i53 F53.kp (F53.binds λ_ _ _ _ _ _=>ar1 λ_=>rfl)
 have K48:=ky (AA (c:=(⟨c1,c2,c3,c4,c5,c6,c7,c8⟩:Cs)) F20 N K16 K46 K47) a20 F20.kp (F20.binds λ_ _ _ _ _ _=>ar1 λ_=>rfl)
 have K49:=ky (AD F54 N) a54 F54.kp (F54.binds λ_ _ _ _ _ _=>ar1 λ_=>rfl)
 have K50:=ky (xR F56 N) a56 F56.kp (F56.binds λ_ _ _ _ _ _=>ar2 λ_ _=>rfl)
 have K51:=ky (AH F55 N K50) a55 F55.kp (F55.binds λ_ _ _ _ _ _=>ar2 λ_ _=>rfl)
 have K52:=ky (xV F57 N) a57 F57.kp (F57.binds λ_ _ _ _ _ _=>ar2 λ_ _=>rfl)
 have K53:=ky (pV F58 lkT hC hB) a58 F58.kp (F58.binds λ_ _ _ _ _ _=>ar2 λ_ _=>rfl)
 have K54:=ky (ya (c:=(⟨c1,c2,c3,c4,c5,c6,c7,c8⟩:Cs)) F3 N K4 K5 K6 K9 K7 K10 K13 K15 K8 K14 K48 K49 K51 K52 K53) a3 F3.kp (F3.binds λ_ _ _ _ _ _=>ar1 λ_=>rfl)
 exact AE F1 N K1 K54
theorem walk {l:PySem.W.OpenLaw}{q:Program}{loose:List Str}{XP:(Str->Option Value)->Heap->Prop}{YP:World->Heap->Prop}{d dj:DefRec}{K:Params->PySem.W.Frag}{c L:Addr} (hn:l.most=some 63) (hdf:d.params.defaults=[])
  (hY:∀(w:World) (h:Heap),YP w h->(K w.params).In h)
  (hrj:(PyProof.Rows.recsOf q).find? (λe=>e.name == ("_law_telling" : Str))=some dj) (htab:∀(w:World) (h:Heap),(K w.params).In h->PySem.W.tabIn (K w.params) "_law_telling" = some (c,L)) (hnt:∀(w:World) (h:Heap),(K w.params).In h->PySem.W.noTabs (K w.params)=true)
  (F:∀(w:World) (mg:Str->Option Value) (fa:Addr) (h:Heap),(K w.params).In h->h.Ns mainGlobals mg->mg d.name=some (.ref fa)->
   ∃fd:FuncData,(∀(s:Shared) (u:Value),BindsTo s fd ⟨[u],[]⟩ [("_law_script", u)])/\
    ∀base:Heap,(K w.params).In base->base.Ns mainGlobals mg->PySem.W.CodeHd base c L->base.BuiltinsAt mg L->FnOk l.prog w (K w.params) mg base CX0 15 fa fd ["_law_script"] (qI (K w.params) L)) :
  PySem.W.WalkO q loose XP YP l.row.toRowW d [] (λf vs=>PySem.call f vs):=
 tw (n:=63) (k:=15) (x:="_law_script") (xj:="_law_telling") (sp:=λw=>qI (K w.params) L) hn (by decide) hdf ⟨rfl,by decide,by decide,rfl⟩ hY hrj htab hnt F λw H a ns hl hO hS=>⟨a,ns,rfl,.inl hO.1,hS,hl,λ_=>rfl⟩
end Mine
open PySem PySem.W PyProof.Rows
namespace PySem.W.Fast
theorem tw5484423487702532949:True:=⟨⟩
theorem tw8512145188544793895:True:=⟨⟩
theorem tw17768192735895788196:True:=⟨⟩
theorem tw5590639187673978894:True:=⟨⟩
theorem tw18287361212531913978:True:=⟨⟩
theorem tw6352894746080562763:True:=⟨⟩
theorem tw3301278646769585817:True:=⟨⟩
theorem tw16922659027579826378:True:=⟨⟩
theorem tw7841413431188462513:True:=⟨⟩
theorem tw6690444732851961128:True:=⟨⟩
theorem tw4284540826960171666:True:=⟨⟩
theorem tw18273193387944356166:True:=⟨⟩
theorem tw3747997234797669092:True:=⟨⟩
theorem tw16347473383547137889:True:=⟨⟩
theorem tw6739653999415134080:True:=⟨⟩
theorem tw18209269634447794835:True:=⟨⟩
theorem tw11673480314713448871:True:=⟨⟩
theorem tw7650563252726444729:True:=⟨⟩
theorem tw2541355757376497955:True:=⟨⟩
theorem tw13079154635896956033:True:=⟨⟩
theorem tw1716143834199668787:True:=⟨⟩
theorem tw4248721358500555512:True:=⟨⟩
theorem tw10735756940935206197:True:=⟨⟩
theorem tw336927314179628294:True:=⟨⟩
theorem tw1529042616443369930:True:=⟨⟩
theorem tw10093824397070583936:True:=⟨⟩
theorem tw5864999167951934946:True:=⟨⟩
theorem tw4563960527988325645:True:=⟨⟩
theorem tw13076781704004365162:True:=⟨⟩
theorem tw12354498525001922513:True:=⟨⟩
theorem tw1383926326148065123:True:=⟨⟩
theorem tw2785449379615550386:True:=⟨⟩
theorem tw14119499331861197648:True:=⟨⟩
theorem tw4981238437444959613:True:=⟨⟩
theorem tw9009297675825659407:True:=⟨⟩
theorem tw1901227577215999646:True:=⟨⟩
theorem tw17316282941091896845:True:=⟨⟩
theorem tw5865537906774314606:True:=⟨⟩
theorem tw17859109230851560694:True:=⟨⟩
theorem tw12152114011221417494:True:=⟨⟩
theorem tw18401716157674417387:True:=⟨⟩
theorem tw474421293638004014:True:=⟨⟩
theorem tw7436224815030367543:True:=⟨⟩
theorem tw1041055018538698424:True:=⟨⟩
theorem tw10760745969297904191:True:=⟨⟩
theorem tw9842953565054987606:True:=⟨⟩
theorem tw11078869802821654349:True:=⟨⟩
theorem tw10552732101287094882:True:=⟨⟩
theorem tw17931889672183402457:True:=⟨⟩
theorem tw7209479558004502930:True:=⟨⟩
theorem tw3652601922861352132:True:=⟨⟩
theorem tw7081673216807916574:True:=⟨⟩
theorem tw9883538719121471002:True:=⟨⟩
theorem tw1805681445993616238:True:=⟨⟩
theorem tw14465059588435397768:True:=⟨⟩
theorem tw13504703554446961372:True:=⟨⟩
theorem tw10099750317954858309:True:=⟨⟩
theorem tw13463103663422470073:True:=⟨⟩
theorem tw4058602164901815257:True:=⟨⟩
theorem tw16836307914967034867:True:=⟨⟩
theorem tw127707209203443697:True:=⟨⟩
theorem tw9953152608763409384:True:=⟨⟩
theorem tw9224646692791314476:True:=⟨⟩
theorem tw6901926929202392942:True:=⟨⟩
theorem tw2160121284462032337:True:=⟨⟩
theorem tw4165396210387704236:True:=⟨⟩
theorem tw13569538578684670562:True:=⟨⟩
theorem tw12493744261031144860:True:=⟨⟩
theorem tw420453070958723315:True:=⟨⟩
theorem tw10052332868568150592:True:=⟨⟩
theorem tw11171886167926480158:True:=⟨⟩
theorem tw16304356467760747869:True:=⟨⟩
theorem tw6818162254934186381:True:=⟨⟩
theorem tw4390409476447651193:True:=⟨⟩
theorem tw11088631323413030003:True:=⟨⟩
theorem tw7982971942960352442:True:=⟨⟩
theorem tw6211003605194855126:True:=⟨⟩
theorem tw11911817320604110450:True:=⟨⟩
theorem tw4547298689506107289:True:=⟨⟩
theorem tw9747380076732830081:True:=⟨⟩
theorem tw4513118076828559953:True:=⟨⟩
theorem tw15979233039608019549:True:=⟨⟩
theorem tw12907215219688140200:True:=⟨⟩
theorem tw8477928446349506440:True:=⟨⟩
theorem tw11842641774254238639:True:=⟨⟩
theorem tw15061416506873830330:True:=⟨⟩
theorem tw14748440987685568432:True:=⟨⟩
theorem tw5591667230624998745:True:=⟨⟩
theorem tw10166971197733008470:True:=⟨⟩
theorem tw17981933011977086793:True:=⟨⟩
theorem tw16339400222821349168:True:=⟨⟩
theorem tw15499155895661635177:True:=⟨⟩
theorem tw3268447130190163451:True:=⟨⟩
theorem tw818123872343537274:True:=⟨⟩
theorem tw2118333238064585668:True:=⟨⟩
theorem tw8491085243293028112:True:=⟨⟩
theorem tw15714600676015539300:True:=⟨⟩
theorem tw4763270562101558991:True:=⟨⟩
theorem tw3100868722139625526:True:=⟨⟩
theorem tw12889658566203236517:True:=⟨⟩
theorem tw2740736024912873626:True:=⟨⟩
theorem tw17729142151809044429:True:=⟨⟩
theorem tw12862233813215066192:True:=⟨⟩
theorem tw4754194462442843635:True:=⟨⟩
theorem tw752405001636132300:True:=⟨⟩
theorem tw1947142374226829836:True:=⟨⟩
theorem tw12383921786540586022:True:=⟨⟩
theorem tw10739489872287142438:True:=⟨⟩
theorem tw18278125602061875149:True:=⟨⟩
theorem tw13297137104317912403:True:=⟨⟩
theorem tw13295905644451572787:True:=⟨⟩
theorem tw10980593600688265243:True:=⟨⟩
theorem tw12063351501629413042:True:=⟨⟩
theorem tw14614021653224126059:True:=⟨⟩
theorem tw7150276088176283684:True:=⟨⟩
theorem tw3495189569140546077:True:=⟨⟩
theorem tw15651655894223842351:True:=⟨⟩
theorem tw3379421187946133737:True:=⟨⟩
theorem tw6983059947659893434:True:=⟨⟩
theorem tw11967793226634319618:True:=⟨⟩
theorem tw9443677738543224818:True:=⟨⟩
theorem tw16982741883091043038:True:=⟨⟩
theorem tw10780719985189548276:True:=⟨⟩
theorem tw12053784679709087388:True:=⟨⟩
theorem tw2951405695381697033:True:=⟨⟩
theorem tw6912978833595466888:True:=⟨⟩
theorem tw16236633421697771064:True:=⟨⟩
theorem tw227924384726288600:True:=⟨⟩
theorem tw17689027015815160435:True:=⟨⟩
theorem tw11956979797017967084:True:=⟨⟩
theorem tw17578212128565188740:True:=⟨⟩
theorem tw6976159787444501899:True:=⟨⟩
theorem tw13458367564258435171:True:=⟨⟩
theorem tw14072744680975657259:True:=⟨⟩
theorem tw14503056036611663158:True:=⟨⟩
theorem tw10818160052213544312:True:=⟨⟩
theorem tw14800255186054561395:True:=⟨⟩
theorem tw17917415988042708686:True:=⟨⟩
theorem tw6068249324751079389:True:=⟨⟩
theorem tw15781639332745412036:True:=⟨⟩
theorem tw15549001461525892932:True:=⟨⟩
theorem tw11355793231380459434:True:=⟨⟩
theorem tw10443119647678903629:True:=⟨⟩
theorem tw12592566807731613866:True:=⟨⟩
theorem tw1817535461370183414:True:=⟨⟩
theorem tw1562438634346745754:True:=⟨⟩
theorem tw17948339840407891795:True:=⟨⟩
theorem tw15030985415982245:True:=⟨⟩
theorem tw9938858466721807379:True:=⟨⟩
theorem tw2566702142533355483:True:=⟨⟩
theorem tw12714293815544502797:True:=⟨⟩
theorem tw14161087824334855406:True:=⟨⟩
theorem tw4504477687285849974:True:=⟨⟩
theorem tw2549585138859824326:True:=⟨⟩
theorem tw2721099420087596031:True:=⟨⟩
theorem tw16454087512593755664:True:=⟨⟩
theorem tw15531124867147247308:True:=⟨⟩
theorem tw14813563715434407887:True:=⟨⟩
theorem tw17945333485733022056:True:=⟨⟩
theorem tw11078086913162855966:True:=⟨⟩
theorem tw12460011479701426010:True:=⟨⟩
theorem tw16001757696829889927:True:=⟨⟩
theorem tw17925577665666205499:True:=⟨⟩
theorem tw9290701927760735212:True:=⟨⟩
theorem tw2094412064760520575:True:=⟨⟩
theorem tw14040024999062378292:True:=⟨⟩
theorem tw5832760784463461307:True:=⟨⟩
theorem tw6373880837774275325:True:=⟨⟩
theorem tw16253370456531682603:True:=⟨⟩
theorem tw3831045988893023320:True:=⟨⟩
theorem tw18147506204304239703:True:=⟨⟩
theorem tw3192593602690550178:True:=⟨⟩
theorem tw14007318687380379497:True:=⟨⟩
theorem tw11385655749056181528:True:=⟨⟩
theorem tw4293072078083926173:True:=⟨⟩
theorem tw16732051079946691860:True:=⟨⟩
theorem tw14858978442992329737:True:=⟨⟩
theorem tw13490975824831547700:True:=⟨⟩
theorem tw1852935826306059698:True:=⟨⟩
theorem tw5778042683608892950:True:=⟨⟩
theorem tw6549895408795846689:True:=⟨⟩
theorem tw15169258709422423673:True:=⟨⟩
theorem tw11531553119695093176:True:=⟨⟩
theorem tw16898975726341356067:True:=⟨⟩
theorem tw11218550301191233716:True:=⟨⟩
theorem tw8198824214169491098:True:=⟨⟩
theorem tw16088347612388985915:True:=⟨⟩
theorem tw6731447465689737947:True:=⟨⟩
theorem tw5193149378107036652:True:=⟨⟩
theorem tw17207006797190467380:True:=⟨⟩
theorem tw7683040261432790032:True:=⟨⟩
theorem tw9639364860677382125:True:=⟨⟩
theorem tw17238630179518346697:True:=⟨⟩
theorem tw14733283227232276983:True:=⟨⟩
theorem tw5858745931834211647:True:=⟨⟩
theorem tw1924116511503902246:True:=⟨⟩
theorem tw15622550896776923280:True:=⟨⟩
theorem tw10658995230658674269:True:=⟨⟩
theorem tw13748555134775659474:True:=⟨⟩
theorem tw15339133694113801957:True:=⟨⟩
theorem tw10762130904224089040:True:=⟨⟩
theorem tw7834617422145088541:True:=⟨⟩
theorem tw14465971760122843550:True:=⟨⟩
theorem tw18069312008161110245:True:=⟨⟩
theorem tw17949622381946836875:True:=⟨⟩
theorem tw13727286356863123140:True:=⟨⟩
theorem tw2837328051789602643:True:=⟨⟩
theorem tw10624480622286153118:True:=⟨⟩
theorem tw7105216925753685134:True:=⟨⟩
theorem tw15770406605090305222:True:=⟨⟩
theorem tw2409486972535705776:True:=⟨⟩
theorem tw4752947543010527866:True:=⟨⟩
theorem tw18206346310420242019:True:=⟨⟩
theorem tw15066729539192405393:True:=⟨⟩
theorem tw16830187258268450365:True:=⟨⟩
theorem tw1485206320627457895:True:=⟨⟩
theorem tw7565287987780551482:True:=⟨⟩
theorem tw15421494352465233409:True:=⟨⟩
theorem tw10984271630248405017:True:=⟨⟩
theorem tw6111068534170965207:True:=⟨⟩
theorem tw10534926574761150289:True:=⟨⟩
theorem tw3333694332020336269:True:=⟨⟩
theorem tw1884704294714522922:True:=⟨⟩
theorem tw5316442699765005858:True:=⟨⟩
theorem tw14902066004592352748:True:=⟨⟩
theorem tw6694462458214054:True:=⟨⟩
theorem tw17554148317573362082:True:=⟨⟩
theorem tw17122226338580861082:True:=⟨⟩
theorem tw15558829203923300255:True:=⟨⟩
theorem tw2027372052082593148:True:=⟨⟩
theorem tw9089572883286237805:True:=⟨⟩
theorem tw10219944093148558664:True:=⟨⟩
theorem tw10337784719381492523:True:=⟨⟩
theorem tw14600736840243465840:True:=⟨⟩
theorem tw15744170186284722665:True:=⟨⟩
theorem tw10848919945544814314:True:=⟨⟩
theorem tw14288690318787239891:True:=⟨⟩
theorem tw16080176381812772246:True:=⟨⟩
theorem tw15153861914448574112:True:=⟨⟩
theorem tw5782260292747043814:True:=⟨⟩
theorem tw1840899014948172968:True:=⟨⟩
theorem tw14264858353793329446:True:=⟨⟩
theorem tw2355796580868029945:True:=⟨⟩
theorem tw15614754133536234204:True:=⟨⟩
theorem tw1786409537909362865:True:=⟨⟩
theorem tw9743145917135715145:True:=⟨⟩
theorem tw2681137134995752217:True:=⟨⟩
theorem tw7560822203383386156:True:=⟨⟩
theorem tw15086200660386252001:True:=⟨⟩
theorem tw13284071507798600379:True:=⟨⟩
theorem tw9962453071286514109:True:=⟨⟩
theorem tw9241422164525011314:True:=⟨⟩
theorem tw10021999364703002932:True:=⟨⟩
theorem tw8845331935303242881:True:=⟨⟩
theorem tw9486039885803735821:True:=⟨⟩
theorem tw10810925617037003221:True:=⟨⟩
theorem tw14042074555516331167:True:=⟨⟩
theorem tw8513856660681826851:True:=⟨⟩
theorem tw16336520812008291508:True:=⟨⟩
theorem tw6020414614205800460:True:=⟨⟩
theorem tw12464400599951177498:True:=⟨⟩
theorem tw16880293691234906781:True:=⟨⟩
theorem tw1012456750167231995:True:=⟨⟩
theorem tw6768236901378896710:True:=⟨⟩
theorem tw8950333430194817435:True:=⟨⟩
theorem tw13869429420677026602:True:=⟨⟩
theorem tw9348859206852284642:True:=⟨⟩
theorem tw3067452263111857774:True:=⟨⟩
theorem tw8727524539440011398:True:=⟨⟩
theorem tw15719286352678940624:True:=⟨⟩
theorem tw5492330949645940273:True:=⟨⟩
theorem tw5573262279516487385:True:=⟨⟩
theorem tw17065416655344700049:True:=⟨⟩
theorem tw8566793227665489104:True:=⟨⟩
theorem tw4069382102481264217:True:=⟨⟩
theorem tw6388777866902143876:True:=⟨⟩
theorem tw6129071772246173501:True:=⟨⟩
theorem tw12242566260307673386:True:=⟨⟩
theorem tw7961879354338457037:True:=⟨⟩
theorem tw6025721245906925383:True:=⟨⟩
theorem tw5095983932431746214:True:=⟨⟩
theorem tw13890195247864243532:True:=⟨⟩
theorem tw333995326378984347:True:=⟨⟩
theorem tw5126417061276667385:True:=⟨⟩
theorem tw3598289557579062989:True:=⟨⟩
theorem tw8363714829381510772:True:=⟨⟩
theorem tw8437523294522507160:True:=⟨⟩
theorem tw2336482395128841549:True:=⟨⟩
theorem tw16231209815514103443:True:=⟨⟩
theorem tw4540983760291785551:True:=⟨⟩
theorem tw321613255003552103:True:=⟨⟩
theorem tw12409079619543498136:True:=⟨⟩
theorem tw6201604848178086539:True:=⟨⟩
theorem tw8279983304821626567:True:=⟨⟩
theorem tw15559823168295926895:True:=⟨⟩
theorem tw17906228399727706428:True:=⟨⟩
theorem tw15890492068141465953:True:=⟨⟩
theorem tw12504074374063719451:True:=⟨⟩
theorem tw16431567062063967432:True:=⟨⟩
theorem tw10862525635877767784:True:=⟨⟩
theorem tw6530106656630079704:True:=⟨⟩
theorem tw12544720894734015786:True:=⟨⟩
theorem tw8881014581939815612:True:=⟨⟩
theorem tw3914403438930109063:True:=⟨⟩
theorem tw9974766375280059558:True:=⟨⟩
theorem tw18163242867251901802:True:=⟨⟩
theorem tw4070597963783102310:True:=⟨⟩
theorem tw2846566967993856311:True:=⟨⟩
theorem tw13838223611581643278:True:=⟨⟩
theorem tw1920582394957577206:True:=⟨⟩
theorem tw12001407511558416030:True:=⟨⟩
theorem tw1762063753012525170:True:=⟨⟩
theorem tw1793268046775007983:True:=⟨⟩
theorem tw14260399793239217874:True:=⟨⟩
theorem tw11266770746505068440:True:=⟨⟩
theorem tw2900809860839220916:True:=⟨⟩
theorem tw14761735139210773086:True:=⟨⟩
theorem tw11058070044407170413:True:=⟨⟩
theorem tw17011724840341497342:True:=⟨⟩
theorem tw9437995631872976818:True:=⟨⟩
theorem tw3422461507836161949:True:=⟨⟩
theorem tw14093888158583377604:True:=⟨⟩
theorem tw875150580690877966:True:=⟨⟩
theorem tw5461259038308963849:True:=⟨⟩
theorem tw2577506966586798311:True:=⟨⟩
theorem tw11664919381951971788:True:=⟨⟩
theorem tw3220324265484919168:True:=⟨⟩
theorem tw3846337994412130000:True:=⟨⟩
theorem tw8997793966123313008:True:=⟨⟩
theorem tw14928792230930482429:True:=⟨⟩
theorem tw137470208019526182:True:=⟨⟩
theorem tw6423482748087979381:True:=⟨⟩
end PySem.W.Fast
set_option maxRecDepth 100000 in
set_option maxHeartbeats 0 in
theorem PySem.Challenge.cw_unsaybook_k33_sums_counts_and_ends_holds : PySem.Challenge.rw_unsaybook_k33_sums_counts_and_ends.Holds := by
 w_on;o_law;k_head;(case hw=>w_witness2)
 k_fill
 refine' Mine.walk (l:=PySem.Challenge.rw_unsaybook_k33_sums_counts_and_ends) (L:=626) rfl rfl (λw h Y=>PySem.W.km_in_of Y) ?hrj ?htab ?hnt ?F
 case hrj=>exact rfl
 case F=>
  intro w mg fa h KX G hmg
  refine' Mine.all_mk KX G hmg ?amR ?amCQ ?amCB ?amc1 ?amc2 ?amc3 ?amc4 ?amc5 ?amc6 ?amc7 ?amc8 ?a1 (L2.fun_mk ?l1 ?e1 ?k1) ?a2 (L2.fun_mk ?l2 ?e2 ?k2) ?a3 (L2.fun_mk ?l3 ?e3 ?k3) ?a4 ?i4 (L2.fun_mk ?l4 ?e4 ?k4) ?a5 ?i5 (L2.fun_mk ?l5 ?e5 ?k5) ?a6 ?i6 (L2.fun_mk ?l6 ?e6 ?k6) ?a7 (L2.fun_mk ?l7 ?e7 ?k7) ?a8 (L2.fun_mk ?l8 ?e8 ?k8) ?a9 ?i9 (L2.fun_mk ?l9 ?e9 ?k9) ?a10 (L2.fun_mk ?l10 ?e10 ?k10) ?a11 (L2.fun_mk ?l11 ?e11 ?k11) ?a12 (L2.fun_mk ?l12 ?e12 ?k12) ?a13 (L2.fun_mk ?l13 ?e13 ?k13) ?a14 (L2.fun_mk ?l14 ?e14 ?k14) ?a15 (L2.fun_mk ?l15 ?e15 ?k15) ?a16 (L2.fun_mk ?l16 ?e16 ?k16) ?a17 (L2.fun_mk ?l17 ?e17 ?k17) ?a18 (L2.fun_mk ?l18 ?e18 ?k18) ?a19 (L2.fun_mk ?l19 ?e19 ?k19) ?a20 (L2.fun_mk ?l20 ?e20 ?k20) ?a21 ?i21 (L2.fun_mk ?l21 ?e21 ?k21) ?a22 (L2.fun_mk ?l22 ?e22 ?k22) ?a23 (L2.fun_mk ?l23 ?e23 ?k23) ?a24 ?i24 (L2.fun_mk ?l24 ?e24 ?k24) ?a25 ?i25 (L2.fun_mk ?l25 ?e25 ?k25) ?a26 ?i26 (L2.fun_mk ?l26 ?e26 ?k26) ?a27 ?i27 (L2.fun_mk ?l27 ?e27 ?k27) ?a28 ?i28 (L2.fun_mk ?l28 ?e28 ?k28) ?a29 (L2.fun_mk ?l29 ?e29 ?k29) ?a30 (L2.fun_mk ?l30 ?e30 ?k30) ?a31 ?i31 (L2.fun_mk ?l31 ?e31 ?k31) ?a32 (L2.fun_mk ?l32 ?e32 ?k32) ?a33 (L2.fun_mk ?l33 ?e33 ?k33) ?a34 (L2.fun_mk ?l34 ?e34 ?k34) ?a35 ?i35 (L2.fun_mk ?l35 ?e35 ?k35) ?a36 ?i36 (L2.fun_mk ?l36 ?e36 ?k36) ?a37 ?i37 (L2.fun_mk ?l37 ?e37 ?k37) ?a38 ?i38 (L2.fun_mk ?l38 ?e38 ?k38) ?a39 (L2.fun_mk ?l39 ?e39 ?k39) ?a40 ?i40 (L2.fun_mk ?l40 ?e40 ?k40) ?a41 ?i41 (L2.fun_mk ?l41 ?e41 ?k41) ?a42 ?i42 (L2.fun_mk ?l42 ?e42 ?k42) ?a43 ?i43 (L2.fun_mk ?l43 ?e43 ?k43) ?a44 ?i44 (L2.fun_mk ?l44 ?e44 ?k44) ?a45 ?i45 (L2.fun_mk ?l45 ?e45 ?k45) ?a46 ?i46 (L2.fun_mk ?l46 ?e46 ?k46) ?a47 ?i47 (L2.fun_mk ?l47 ?e47 ?k47) ?a48 ?i48 (L2.fun_mk ?l48 ?e48 ?k48) ?a49 ?i49 (L2.fun_mk ?l49 ?e49 ?k49) ?a50 ?i50 (L2.fun_mk ?l50 ?e50 ?k50) ?a51 ?i51 (L2.fun_mk ?l51 ?e51 ?k51) ?a52 ?i52 (L2.fun_mk ?l52 ?e52 ?k52) ?a53 ?i53 (L2.fun_mk ?l53 ?e53 ?k53) ?a54 (L2.fun_mk ?l54 ?e54 ?k54) ?a55 (L2.fun_mk ?l55 ?e55 ?k55) ?a56 (L2.fun_mk ?l56 ?e56 ?k56) ?a57 (L2.fun_mk ?l57 ?e57 ?k57) ?a58 (L2.fun_mk ?l58 ?e58 ?k58) ?lkT ?wread1 ?wread2 ?wread3 ?mkR ?kpR ?mkc1 ?kpc1 ?mkc2 ?kpc2 ?mkc3 ?kpc3 ?mkc4 ?kpc4 ?mkc5 ?kpc5 ?mkc6 ?kpc6 ?mkc7 ?kpc7 ?mkc8 ?kpc8 ⟨⟨?pg,?hd,?po,?sa⟩,?nn1,?nn2,?nn3⟩ ?g1CQ ?g2CQ ?g3CQ ?g1CB ?g2CB ?g3CB ?tyn ?tyk ?qb1 ?qb2 ?qb3 ?qb4 ?qb5 ?qb6 ?qb7 ?qb8 ?tn1 ?tb1 ?tn2 ?tb2 ?tn3 ?tb3 ?tn4 ?tb4 ?q1 ?q2 ?q3 ?q4 ?q5 ?q6 ?q7 ?q8 ?q9 ?z1 ?z2 ?z3 ?z4 ?z5 ?z6 ?z7 ?z8 ?z9 ?z10 ?z11 ?z12 ?z13 ?z14 ?z15 ?z16 ?z17 ?z18
  case amR | amCQ | amCB | amc1 | amc2 | amc3 | amc4 | amc5 | amc6 | amc7 | amc8 | a1 | l1 | e1 | k1 | a2 | l2 | e2 | k2 | a3 | l3 | e3 | k3 | a4 | i4 | l4 | e4 | k4 | a5 | i5 | l5 | e5 | k5 | a6 | i6 | l6 | e6 | k6 | a7 | l7 | e7 | k7 | a8 | l8 | e8 | k8 | a9 | i9 | l9 | e9 | k9 | a10 | l10 | e10 | k10 | a11 | l11 | e11 | k11 | a12 | l12 | e12 | k12 | a13 | l13 | e13 | k13 | a14 | l14 | e14 | k14 | a15 | l15 | e15 | k15 | a16 | l16 | e16 | k16 | a17 | l17 | e17 | k17 | a18 | l18 | e18 | k18 | a19 | l19 | e19 | k19 | a20 | l20 | e20 | k20 | a21 | i21 | l21 | e21 | k21 | a22 | l22 | e22 | k22 | a23 | l23 | e23 | k23 | a24 | i24 | l24 | e24 | k24 | a25 | i25 | l25 | e25 | k25 | a26 | i26 | l26 | e26 | k26 | a27 | i27 | l27 | e27 | k27 | a28 | i28 | l28 | e28 | k28 | a29 | l29 | e29 | k29 | a30 | l30 | e30 | k30 | a31 | i31 | l31 | e31 | k31 | a32 | l32 | e32 | k32 | a33 | l33 | e33 | k33 | a34 | l34 | e34 | k34 | a35 | i35 | l35 | e35 | k35 | a36 | i36 | l36 | e36 | k36 | a37 | i37 | l37 | e37 | k37 | a38 | i38 | l38 | e38 | k38 | a39 | l39 | e39 | k39 | a40 | i40 | l40 | e40 | k40 | a41 | i41 | l41 | e41 | k41 | a42 | i42 | l42 | e42 | k42 | a43 | i43 | l43 | e43 | k43 | a44 | i44 | l44 | e44 | k44 | a45 | i45 | l45 | e45 | k45 | a46 | i46 | l46 | e46 | k46 | a47 | i47 | l47 | e47 | k47 | a48 | i48 | l48 | e48 | k48 | a49 | i49 | l49 | e49 | k49 | a50 | i50 | l50 | e50 | k50 | a51 | i51 | l51 | e51 | k51 | a52 | i52 | l52 | e52 | k52 | a53 | i53 | l53 | e53 | k53 | a54 | l54 | e54 | k54 | a55 | l55 | e55 | k55 | a56 | l56 | e56 | k56 | a57 | l57 | e57 | k57 | a58 | l58 | e58 | k58 | lkT | wread1 | wread2 | wread3 | mkR | kpR | mkc1 | kpc1 | mkc2 | kpc2 | mkc3 | kpc3 | mkc4 | kpc4 | mkc5 | kpc5 | mkc6 | kpc6 | mkc7 | kpc7 | mkc8 | kpc8 | pg | hd | po | sa | nn1 | nn2 | nn3 | g1CQ | g2CQ | g3CQ | g1CB | g2CB | g3CB | tyn | tyk | tn1 | tn2 | tn3 | tn4 | q1 | q2 | q3 | q4 | q5 | q6 | q7 | q8 | q9 | z1 | z2 | z3 | z4 | z5 | z6 | z7 | z8 | z9 | z10 | z11 | z12 | z13 | z14 | z15 | z16 | z17 | z18=>first | k_is | (unfold L2.NoAttr;k_is)
  case qb1 | qb2 | qb3 | qb4 | qb5 | qb6 | qb7 | qb8 | tb1 | tb2 | tb3 | tb4=>kernel_rfl
 case htab=>intro w h KX;kernel_rfl
 case hnt=>intro w h KX;kernel_rfl
