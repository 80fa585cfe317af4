import PyProof.Rows.All
import Wide.All
import OpenK.AllK
import Wide.FinOn
import Lean
import PyProof.EqAt
import PyProof.EqKinds
import PyProof.TupleCall
import KE.IntTextText
import PyProof.SeqI3
import KE.KSortTup
import KE.KMinKey
import PySem.Challenge.RW_unsaybook_k21_turns_unlike
set_option Elab.async false
set_option linter.all false
set_option maxRecDepth 100000
local macro_rules|`(‹0›)=>`(by decide +kernel)
local macro_rules|`(‹1›)=>`(by omega)
local macro_rules|`(‹$s:str›)=>`(PySem.Str.ofString $s)
local macro_rules|`(‹2›)=>`(⟨rfl,rfl,rfl,by decide +kernel,rfl,by decide +kernel,by decide +kernel⟩)
local macro_rules|`(‹($k,$f,$s:str)›)=>`(PySem.W.nsIn $k PySem.mainGlobals $s = some (some (PySem.Value.ref $f)))
local macro_rules|`(‹($k,$c,$f,$s:str)›)=>`(PySem.W.findIn $k (PySem.Value.ref $c) $s = some (some (PySem.Value.ref $f)))
local macro_rules|`(‹[$k,$f]›)=>`(PySem.W.isFn $k (PySem.Value.ref $f) = true)
open PySem PySem.Spec PyProof.Rows in abbrev zB0:=@wpAny_bind
open PySem PySem.Spec PyProof.Rows in abbrev zP0:=@wpAny_pure
open PySem PySem.Spec PyProof.Rows in abbrev zH0:=@Heap.get?_push_of_some
namespace L2
open PySem PySem.Spec PyProof.Rows
noncomputable abbrev Key:=Sum Int Str
noncomputable def kX:Key->Value->Bool
 | .inl k,v=>Value.isInt k v
 | .inr x,v=>Value.isStrOf x v
noncomputable def B7 (w:World):Key->Int
 | .inl k=>hashInt k
 | .inr x=>hashStr w x
theorem keyIs_shape:∀{k:Key}{v:Value},kX k v=true->(∃i t,k=Sum.inl i/\v=Value.int i t)\/(∃x t,k=Sum.inr x/\v=Value.str x t)
 | .inl i,v,h=>by
  obtain⟨t,e⟩:=Value.isInt_shape (k:=i) (v:=v) h
  exact .inl ⟨i,t,rfl,e⟩
 | .inr x,v,h=>by
  obtain⟨t,e⟩:=Value.isStrOf_shape (x:=x) (v:=v) h
  exact .inr ⟨x,t,rfl,e⟩
theorem sk (i:Int) (t:Tok):kX (.inl i) (.int i t)=true:=by simp [kX,Value.isInt]
theorem sj (x:Str) (t:Tok):kX (.inr x) (.str x t)=true:=by simp [kX,Value.isStrOf]
theorem zw (a b:Int):decide ((Sum.inl a:Key)=Sum.inl b)=(a == b):=by
 by_cases e:a=b
 ·subst e;simp
 ·have h:¬(Sum.inl a:Key)=Sum.inl b:=λq=>e (Sum.inl.inj q)
  rw [decide_eq_false h]
  exact(beq_eq_false_iff_ne.mpr e).symm
theorem zr (a b:Str):decide ((Sum.inr a:Key)=Sum.inr b)=decide (a=b):=by
 by_cases e:a=b
 ·subst e;simp
 ·have h:¬(Sum.inr a:Key)=Sum.inr b:=λq=>e (Sum.inr.inj q)
  rw [decide_eq_false h,decide_eq_false e]
theorem zv (a:Int) (b:Str):decide ((Sum.inl a:Key)=Sum.inr b)=false:=decide_eq_false (λq=>nomatch q)
theorem zu (a:Str) (b:Int):decide ((Sum.inr a:Key)=Sum.inl b)=false:=decide_eq_false (λq=>nomatch q)
noncomputable def aZ (prog:Program) (w:World):PySem.KeyKind prog w Key where
 is:=kX
 hash:=B7 w
 inj:=λv a b ha hb=>by
  rcases keyIs_shape ha with⟨i,t,rfl,rfl⟩ | ⟨x,t,rfl,rfl⟩
  ·rcases keyIs_shape hb with⟨j,u,rfl,e⟩ | ⟨y,u,rfl,e⟩
   ·injection e with e1 _;rw [e1]
   ·exact nomatch e
  ·rcases keyIs_shape hb with⟨j,u,rfl,e⟩ | ⟨y,u,rfl,e⟩
   ·exact nomatch e
   ·injection e with e1 _;rw [e1]
 byValue:=λk v h=>by
  rcases keyIs_shape h with⟨i,t,rfl,rfl⟩ | ⟨x,t,rfl,rfl⟩ <;> rfl
 pyHash:=λhv h=>by
  rcases keyIs_shape hv with⟨i,t,rfl,rfl⟩ | ⟨x,t,rfl,rfl⟩
  ·exact wpAny_pyHash_int h
  ·exact wpAny_pyHash_str h
 eqBool:=λhu hv h=>by
  rcases keyIs_shape hu with⟨i,t,rfl,rfl⟩ | ⟨x,t,rfl,rfl⟩
  ·rcases keyIs_shape hv with⟨j,u,rfl,rfl⟩ | ⟨y,u,rfl,rfl⟩
   ·rw [zw]at h;exact wpAny_eqBool_int h
   ·rw [zv]at h;exact SeqAt.EqAt.int_str i t y u _ _ _ _ h
  ·rcases keyIs_shape hv with⟨j,u,rfl,rfl⟩ | ⟨y,u,rfl,rfl⟩
   ·rw [zu]at h;exact SeqAt.EqAt.str_int x t j u _ _ _ _ h
   ·rw [zr]at h;exact wpAny_eqBool_str h
 «strs»:=λk x t v h=>by
  rcases keyIs_shape h with⟨i,u,rfl,e⟩ | ⟨y,u,rfl,e⟩
  ·exact nomatch e
  ·injection e with e1 _
   subst e1
   cases v <;> rfl
theorem nR (prog:Program) (w:World) (i:Int) (t:Tok):(aZ prog w).is (.inl i) (.int i t)=true:=sk i t
theorem nQ (prog:Program) (w:World) (x:Str) (t:Tok):(aZ prog w).is (.inr x) (.str x t)=true:=sj x t
inductive V where
 | non | bl (b:Bool) | int (i:Int) | str (x:Str) | byt (b:Array UInt8) | flt (b:UInt64) | ref (a:Addr) | ty (n:String)
 deriving DecidableEq
noncomputable def aP:V->Value->Prop
 | .non,u=>u=Value.none
 | .bl b,u=>u=Value.bool b
 | .int i,u=>∃t,u=Value.int i t
 | .str x,u=>∃t,u=Value.str x t
 | .byt b,u=>∃t,u=Value.bytes b t
 | .flt b,u=>∃t,u=Value.float b t
 | .ref a,u=>u=Value.ref a
 | .ty n,u=>u=Value.type n
noncomputable abbrev aJ:List V->List Value->Prop:=Paired aP
theorem aJ.length {xs:List V}{us:List Value} (r:aJ xs us):xs.length=us.length:=Paired.length r
theorem aJ.get:∀{xs:List V}{us:List Value}{i:Nat}{x:V},aJ xs us->xs[i]?=some x->∃u,us[i]?=some u/\aP x u
 | _,_,_,_,.nil,e=>by simp at e
 | _,_,0,_,.cons r _,e=>by simp at e;subst e;exact⟨_,rfl,r⟩
 | _,_,i+1,x,.cons _ t,e=>by
  obtain⟨u,h1,h2⟩:=aJ.get (i:=i) (x:=x) t (by simpa using e)
  exact⟨u,by simpa using h1,h2⟩
theorem aJ.set {x:V}{u:Value} (r:aP x u):∀{xs:List V}{us:List Value} (i:Nat),aJ xs us->aJ (xs.set i x) (us.set i u)
 | _,_,_,.nil=>.nil
 | _,_,0,.cons _ t=>.cons r t
 | _,_,i+1,.cons q t=>.cons q (aJ.set r i t)
theorem aJ.append:∀{xs ys:List V}{us ws:List Value},aJ xs us->aJ ys ws->aJ (xs++ys) (us++ws)
 | _,_,_,_,.nil,s=>s
 | _,_,_,_,.cons r t,s=>.cons r (aJ.append t s)
theorem aJ.take:∀{xs:List V}{us:List Value} (n:Nat),aJ xs us->aJ (xs.take n) (us.take n)
 | _,_,0,_=>.nil
 | _,_,_+1,.nil=>.nil
 | _,_,n+1,.cons r t=>.cons r (aJ.take n t)
theorem aJ.drop:∀{xs:List V}{us:List Value} (n:Nat),aJ xs us->aJ (xs.drop n) (us.drop n)
 | _,_,0,r=>r
 | _,_,_+1,.nil=>.nil
 | _,_,n+1,.cons _ t=>aJ.drop n t
noncomputable def eB:Option V->Option Value->Prop
 | some v,some u=>aP v u
 | none,none=>True
 | _,_=>False
noncomputable def KV {κ:Type}:List (κ × V)->List (κ × Value)->Prop:=Paired λ(p:κ × V) (q:κ × Value)=>p.1=q.1/\aP p.2 q.2
noncomputable def kV:Key->V
 | .inl i=>.int i
 | .inr x=>.str x
inductive HO where
 /-- a list -/
 | lst (xs:List V)
 /-- a tuple (never changes) -/
 | tup (xs:List V)
 /-- a dict whose keys are ints and texts;one whose keys are tuples of ints and texts (the empty one is both) -/
 | dK (kvs:List (Key × V)) | dT (kvs:List (List Key × V))
 /-- a set of ints: its members,its size -/
 | set (S:Int->Bool) (n:Nat)
 /-- an instance of the class at C,its dict at dx,its attributes -/
 | ins (C dx:Addr) (fs:List (Str × V))
 /-- the dict of the instance at x -/
 | own (x:Addr)
 /-- the dict of an exception -/
 | xd (fs:List (Str × V))
 /-- a bound method,f of x -/
 | met (f x:Addr)
 /-- a range object lo,lo+1,.. below hi -/
 | rng (lo hi:Int)
 /-- a thing that is known to the object (the script;a dict while a loop walks it): read,never written while it is so -/
 | frz (o:Obj) (u:HO)
 /-- a code object's table -/
 | tbl (ps:Array Value)
 /-- any other thing,by what is true of its one object (a def of one's own: SetO a S n:=HO.ext λh=>..) -/
 | ext (φ:Heap->Prop)
noncomputable abbrev Hp:=Addr->Option HO
noncomputable def upd (H:Hp) (a:Addr) (o:HO):Hp:=λb=>if b=a then some o else H b
theorem ae {H:Hp}{a:Addr}{o:HO}:upd H a o a=some o:=by unfold upd;rw [if_pos rfl]
theorem ag {H:Hp}{a b:Addr}{o:HO} (h:b≠a):upd H a o b=H b:=by unfold upd;rw [if_neg h]
theorem eT {H:Hp}{a:Addr}{o u:HO}:upd (upd H a o) a u=upd H a u:=by
 funext b;unfold upd;split <;> rfl
theorem aD {H:Hp}{a b:Addr}{o u:HO} (h:H a=some o) (h':H b=some u) (d:o≠u):a≠b:=by
 intro e;subst e;rw [h]at h';exact d (Option.some.inj h')
theorem af {H:Hp}{a b:Addr}{o:HO} (h:H a=some o) (h':H b=none):a≠b:=by
 intro e;subst e;rw [h]at h';cases h'
section
variable (P:Program) (w:World)
noncomputable def br (H:Hp) (h:Heap) (a:Addr):HO->Prop
 | .lst xs=>xs.length<=sizeLine/\∃(its:List Value) (n:Nat),aJ xs its/\h.get? a=some { cls:=.type "list", data:=.seq its.toArray n }
 | .tup xs=>xs.length<=sizeLine/\∃its:List Value,aJ xs its/\IsTup h a its.toArray
 | .dK kvs=>kvs.length<=sizeLine/\(a == sysModules)=false/\∃vs,KV kvs vs/\h.DictOf (aZ P w) a vs
 | .dT kvs=>kvs.length<=sizeLine/\(a == sysModules)=false/\∃xs:List (List Key × Addr × Value),
   Paired (λ(p:List Key × V) (q:List Key × Addr × Value)=>p.1=q.1/\H q.2.1=some (.tup (p.1.map kV))/\aP p.2 q.2.2) kvs xs/\
   ∃o es ep,h.get? a=some o/\o.ExactDict/\o.data=.dict es ep/\es.toList=xs.map (entryOfKey (tupleKind (aZ P w)))/\(xs.map (·.1)).Nodup
 | .set S n=>h.SetOf (intKind P w) a S n
 | .ins C dx fs=>H dx=some (.own a)/\fs.length<=1000/\dx≠a/\h.get? a=some (PySem.W.instObj C dx)/\
   ∃mA,h.Ns1 dx mA/\(∀f,eB (fs.lookup f) (mA f))/\PySem.Within mA (fs.map (·.1))
 | .own _=>∃o,h.get? a=some o
 | .xd fs=>∃mA,h.Ns1 a mA/\∀f,eB (fs.lookup f) (mA f)
 | .rng lo hi=>∃t u v,h.get? a=some { cls:=.type "range", data:=.fields #[.int lo t,.int hi u,.int 1 v] }
 | .frz o u=>h.get? a=some o/\br H h a u
 | .tbl ps=>h.get? a=some { cls:=.none,data:=.fields ps }
 | .met f x=>h.get? a=some (PySem.W.methodObj (.ref f) (.ref x))
 | .ext φ=>φ h/\(∃o,h.get? a=some o)/\∀h1 h2:Heap,φ h1->(∀o,h1.get? a=some o->h2.get? a=some o)->φ h2
def HOk (H:Hp) (h:Heap):Prop:=∀a o,H a=some o->br P w H h a o
end
section
variable {P:Program}{w:World}{H H':Hp}{h h':Heap}{a:Addr}{o:HO}
theorem br.lt (x:br P w H h a o):a < h.objs.size:=by
 cases o with
 | lst xs=>obtain⟨_,_,_,_,e⟩:=x;exact Heap.lt_size e
 | tup xs=>obtain⟨_,_,_,p⟩:=x;exact p.lt
 | dK kvs=>obtain⟨_,_,_,_,o,_,_,e,_⟩:=x;exact Heap.lt_size e
 | dT kvs=>obtain⟨_,_,_,_,o,_,_,e,_⟩:=x;exact Heap.lt_size e
 | set S n=>obtain⟨o,_,_,_,e,_⟩:=x;exact Heap.lt_size e
 | ins C dx fs=>obtain⟨_,_,_,e,_⟩:=x;exact Heap.lt_size e
 | own y=>obtain⟨_,e⟩:=x;exact Heap.lt_size e
 | xd fs=>obtain⟨_,⟨_,_,_,e,_⟩,_⟩:=x;exact Heap.lt_size e
 | rng lo hi=>obtain⟨_,_,_,e⟩:=x;exact Heap.lt_size e
 | frz ob u=>obtain⟨e,_⟩:=x;exact Heap.lt_size e
 | tbl ps=>exact Heap.lt_size (show h.get? a=some _ from x)
 | met f y=>exact Heap.lt_size (show h.get? a=some _ from x)
 | ext φ=>obtain⟨_,⟨_,e⟩,_⟩:=x;exact Heap.lt_size e
theorem Paired.mapP {α β:Type}{F G:α->β->Prop}:∀{l₁:List α}{l₂:List β},Paired F l₁ l₂->(∀a b,F a b->G a b)->Paired G l₁ l₂
 | _,_,.nil,_=>.nil
 | _,_,.cons r t,f=>.cons (f _ _ r) (Paired.mapP t f)
theorem br.stay (x:br P w H h a o) (k:∀b u,(b=a\/H b=some (.own a))->h.get? b=some u->h'.get? b=some u)
  (ho:∀b,H b=some (.own a)->H' b=some (.own a)) (ht:∀b xs,H b=some (.tup xs)->H' b=some (.tup xs)):br P w H' h' a o:=by
 induction o with
 | lst xs=>obtain⟨z,its,n,r,e⟩:=x;exact⟨z,its,n,r,k _ _ (.inl rfl) e⟩
 | tup xs=>obtain⟨z,its,r,ob,e,c⟩:=x;exact⟨z,its,r,ob,k _ _ (.inl rfl) e,c⟩
 | dK kvs=>obtain⟨z,y,vs,r,ob,es,ep,e,c⟩:=x;exact⟨z,y,vs,r,ob,es,ep,k _ _ (.inl rfl) e,c⟩
 | dT kvs=>
  obtain⟨z,y,xs,r,ob,es,ep,e,c⟩:=x
  exact⟨z,y,xs,Paired.mapP r λp q z=>⟨z.1,ht _ _ z.2.1,z.2.2⟩,ob,es,ep,k _ _ (.inl rfl) e,c⟩
 | set S n=>obtain⟨ob,es,ep,t,e,c⟩:=x;exact⟨ob,es,ep,t,k _ _ (.inl rfl) e,c⟩
 | ins C dx fs=>
  obtain⟨d,z,ne,e,mA,⟨od,es,ep,e2,c⟩,r⟩:=x
  exact⟨ho _ d,z,ne,k _ _ (.inl rfl) e,mA,⟨od,es,ep,k _ _ (.inr d) e2,c⟩,r⟩
 | own y=>obtain⟨ob,e⟩:=x;exact⟨ob,k _ _ (.inl rfl) e⟩
 | xd fs=>obtain⟨mA,⟨od,es,ep,e,c⟩,r⟩:=x;exact⟨mA,⟨od,es,ep,k _ _ (.inl rfl) e,c⟩,r⟩
 | rng lo hi=>obtain⟨t,u,v,e⟩:=x;exact⟨t,u,v,k _ _ (.inl rfl) e⟩
 | frz ob u ih=>obtain⟨e,q⟩:=x;exact⟨k _ _ (.inl rfl) e,ih q⟩
 | tbl ps=>
  have e:h.get? a=some { cls:=.none,data:=.fields ps }:=x
  show h'.get? a=some { cls:=.none,data:=.fields ps }
  exact k a _ (.inl rfl) e
 | met f y=>
  have e:h.get? a=some (PySem.W.methodObj (.ref f) (.ref y)):=x
  show h'.get? a=some (PySem.W.methodObj (.ref f) (.ref y))
  exact k a _ (.inl rfl) e
 | ext φ=>obtain⟨p,⟨o,e⟩,st⟩:=x;exact⟨st _ _ p λo q=>k _ _ (.inl rfl) q,⟨o,k _ _ (.inl rfl) e⟩,st⟩
theorem HOk.lt (x:HOk P w H h) (e:H a=some o):a < h.objs.size:=(x a o e).lt
theorem HOk.fresh (x:HOk P w H h) (e:h.objs.size<=a):H a=none:=by
 cases q:H a with
 | none=>rfl
 | some u=>exact absurd (Nat.lt_of_lt_of_le (x.lt q) e) (Nat.lt_irrefl _)
theorem HOk.kept (x:HOk P w H h) (k:∀b u,h.get? b=some u->h'.get? b=some u):HOk P w H h':=λa o e=>
 (x a o e).stay (λb u _ q=>k b u q) (λ_ q=>q) λ_ _ q=>q
theorem HOk.laid (x:HOk P w H h) (k:∀b u,h.get? b=some u->h'.get? b=some u) (hp:h.objs.size<=a) (new:br P w (upd H a o) h' a o):HOk P w (upd H a o) h':=λb u e=>by
 have hn:=x.fresh hp
 by_cases hb:b=a
 ·subst hb;rw [ae]at e;cases e;exact new
 ·rw [ag hb]at e
  exact(x b u e).stay (λc v _ q=>k c v q) (λc q=>by rw [ag (af q hn)];exact q) λc xs q=>by rw [ag (af q hn)];exact q
end
def Rd (H:Hp) (a:Addr) (u:HO):Prop:=H a=some u\/∃o,H a=some (.frz o u)
theorem Rd.ok {P:Program}{w:World}{H:Hp}{h:Heap}{a:Addr}{u:HO} (r:Rd H a u) (x:HOk P w H h):br P w H h a u:=by
 rcases r with r | ⟨o,r⟩
 ·exact x a u r
 ·obtain⟨_,q⟩:=x a _ r
  exact q
noncomputable def Mut:Option HO->Prop
 | some (.lst _)=>True
 | some (.dK _)=>True
 | some (.dT _)=>True
 | some (.set _ _)=>True
 | some (.ins _ _ _)=>True
 | some (.ext _)=>True
 | _=>False
section
variable {P:Program}{w:World}{H:Hp}{h h':Heap}{x e:Addr}{o':HO}
theorem HOk.write (ok:HOk P w H h) (mu:Mut (H x)) (he:e=x\/H e=some (.own x)) (k:∀b u,b≠e->h.get? b=some u->h'.get? b=some u) (heo:∃u,h'.get? e=some u)
  (new:br P w (upd H x o') h' x o'):HOk P w (upd H x o') h':=λb u q=>by
 have nown:∀c y,H c=some (.own y)->c≠x:=λc y r z=>by subst z;rw [r]at mu;exact mu
 have ntup:∀c xs,H c=some (.tup xs)->c≠x:=λc xs r z=>by subst z;rw [r]at mu;exact mu
 by_cases hb:b=x
 ·subst hb;rw [ae]at q;cases q;exact new
 ·rw [ag hb]at q
  by_cases hbe:b=e
  ·have q':H b=some (.own x):=by
    rcases he with z | z
    ·exact absurd (hbe.trans z) hb
    ·rw [hbe];exact z
   rw [q]at q';cases q'
   obtain⟨v,hv⟩:=heo
   exact⟨v,by rw [hbe];exact hv⟩
  ·refine(ok b u q).stay (λc v hc r=>k c v ?_ r) (λc r=>by rw [ag (nown c b r)];exact r) λc xs r=>by rw [ag (ntup c xs r)];exact r
   rcases hc with rfl | hc
   ·exact hbe
   ·rintro rfl
    rcases he with z | z
    ·exact nown c b hc z
    ·rw [hc]at z;cases z;exact hb rfl
end
structure Un (fs ex:List Addr) (H H':Hp) (h h':Heap):Prop where
 keep:∀b o,h.get? b=some o->H b=none->b∉fs->b∉ex->h'.get? b=some o
 slot:∀b o,h.get? b=some o->H b=none->b∈fs->b∉ex->∃sl,h'.get? b=some { o with slots:=sl }
 free:∀b o,h.get? b=some o->H b=none->b∉ex->H' b=none
 there:∀b o,h.get? b=some o->b∉ex->∃o',h'.get? b=some o'
 tups:∀b xs,H b=some (.tup xs)->H' b=some (.tup xs)
 frzs:∀b o u,H b=some (.frz o u)->H' b=some (.frz o u)
 tbls:∀b ps,H b=some (.tbl ps)->∃more,H' b=some (.tbl (ps++more))
section
variable {fs fs' ex ex':List Addr}{H H1 H2:Hp}{h h1 h2 h':Heap}{a x e:Addr}{o:HO}
theorem Un.any (u:Un fs ex H H1 h h1){b:Addr}{ob:Obj} (q:h.get? b=some ob) (n:H b=none) (hx:b∉ex):∃sl,h1.get? b=some { ob with slots:=sl }:=by
 by_cases hb:b∈fs
 ·exact u.slot b ob q n hb hx
 ·exact⟨ob.slots,u.keep b ob q n hb hx⟩
theorem Un.kept (k:∀b u,h.get? b=some u->h'.get? b=some u):Un fs ex H H h h':=
 ⟨λb ob q _ _ _=>k b ob q,λb ob q _ _ _=>⟨ob.slots,k b ob q⟩,λ_ _ _ n _=>n,λb ob q _=>⟨ob,k b ob q⟩,λ_ _ q=>q,λ_ _ _ q=>q,λ_ ps q=>⟨#[],by rw [q];simp⟩⟩
theorem Un.refl:Un fs ex H H h h:=Un.kept λ_ _ q=>q
theorem Un.laid (k:∀b u,h.get? b=some u->h'.get? b=some u) (hp:h.objs.size<=a) (hn:H a=none):Un fs ex H (upd H a o) h h' where
 keep:=λb u q _ _ _=>k b u q
 slot:=λb u q _ _ _=>⟨u.slots,k b u q⟩
 free:=λb u q n _=>by rw [ag (Nat.ne_of_lt (Nat.lt_of_lt_of_le (Heap.lt_size q) hp))];exact n
 there:=λb u q _=>⟨u,k b u q⟩
 tups:=λb xs q=>by rw [ag (af q hn)];exact q
 frzs:=λb u xs q=>by rw [ag (af q hn)];exact q
 tbls:=λb ps q=>⟨#[],by rw [ag (af q hn),q];simp⟩
theorem Un.write (mu:Mut (H x)) (he:e=x\/H e=some (.own x)) (k:∀b u,b≠e->h.get? b=some u->h'.get? b=some u) (heo:∃u,h'.get? e=some u):Un fs ex H (upd H x o) h h':=by
 have hx:∀b,H b=none->b≠x:=λb n z=>by subst z;rw [n]at mu;exact mu
 have hb:∀b,H b=none->b≠e:=λb n z=>by
  subst z
  rcases he with r | r
  ·exact hx b n r
  ·rw [n]at r;cases r
 have hm:∀b u,H b=some u->¬Mut (some u)->b≠x:=λb u q nm z=>by subst z;rw [q]at mu;exact nm mu
 refine⟨λb u q n _ _=>k b u (hb b n) q,λb u q n _ _=>⟨u.slots,k b u (hb b n) q⟩,λb u q n _=>by rw [ag (hx b n)];exact n,λb u q _=>?_,
  λb xs q=>by rw [ag (hm b _ q λz=>z)];exact q,λb u xs q=>by rw [ag (hm b _ q λz=>z)];exact q,λb ps q=>⟨#[],by rw [ag (hm b _ q λz=>z),q];simp⟩⟩
 by_cases hbe:b=e
 ·subst hbe;exact heo
 ·exact⟨u,k b u hbe q⟩
end
noncomputable def trk (h:Heap) (H:Hp):List Addr:=(List.range h.objs.size).filter λa=>(H a).isSome
noncomputable def jP (h:Heap) (H:Hp):Heap:=PySem.W.hideAll h (trk h H)
theorem su (h:Heap) (H:Hp):(jP h H).objs.size=h.objs.size:=PySem.W.hideAll_size _ _
theorem vp {h:Heap}{H:Hp}{b:Addr}{o:Obj} (e:h.get? b=some o) (n:H b=none):(jP h H).get? b=some o:=
 PySem.W.hideAll_get _ e λhm=>by
  have q:(H b).isSome=true:=(List.mem_filter.mp hm).2
  rw [n]at q;simp at q
theorem xm {h:Heap}{H:Hp}{b:Addr}{o:Obj} (e:(jP h H).get? b=some o):h.get? b=some o/\H b=none:=by
 have e':h.get? b=some o:=PySem.W.of_hideAll (trk h H) e
 refine⟨e',?_⟩
 cases q:H b with
 | none=>rfl
 | some x=>
  have hm:b∈trk h H:=List.mem_filter.mpr ⟨List.mem_range.mpr (Heap.lt_size e'),by simp [q]⟩
  have z:(jP h H).get? b=none:=PySem.W.hideAll_none (trk h H) hm
  rw [z]at e;cases e
structure Mod (K:PySem.W.Frag) (mg:Str->Option Value) (base:Heap):Prop where
 kin:K.In base
 glob:base.Ns mainGlobals mg
 blt:∃mb,base.Ns builtinsNs mb/\∀x:Str,x≠"__name__"->mb x=bootBuiltins x
 nolimit:base.NoLimit
structure Cx where
 prog:Program
 w:World
 K:PySem.W.Frag
 mg:Str->Option Value
 base:Heap
 A:Around
 N:List Str
 s₀:Shared
 H₀:Hp
 env:Env
 outer:List Env
 stack:List Env
 ex:List Addr
 fn:Str->Bool
 calm:Bool
 pn:List (Addr × Obj)
 xe:Value->Shared->Prop
noncomputable def frs (l:List Env):List Addr:=l.filterMap (·.frame)
noncomputable abbrev Cx.fs (X:Cx):List Addr:=frs X.outer
def Vis (sc:Scope) (x:Str):Prop:=sc.names.lookup x=some .local\/sc.names.lookup x=some .cell\/sc.names.lookup x=some .free
def Loc (sc:Scope) (x:Str):Prop:=sc.names.lookup x=some .local\/sc.names.lookup x=some .cell
def Bg (env:Env) (h:Heap) (m:Str->Option Value) (x:Str) (u:Value):Prop:=
 (env.kindOf x=some .local/\m x=some u)\/((env.kindOf x=some .cell\/env.kindOf x=some .free)/\∃c,env.cells.lookup x=some c/\h.IsCell c (some u))
structure Cx.Ok (X:Cx):Prop where
 mod:Mod X.K X.mg X.base
 kind:X.env.scope.kind=.function
 glob:X.env.globals=mainGlobals
 blt:X.env.builtins=builtinsNs
 above:X.s₀.heap.objs.size<=X.env.locals
 inj:∀x y c,X.env.cells.lookup x=some c->X.env.cells.lookup y=some c->x=y
 has:∀x,(X.env.kindOf x=some .cell\/X.env.kindOf x=some .free)->∃c,X.env.cells.lookup x=some c
 cab:∀x c,X.fn x=true->X.env.cells.lookup x=some c->X.s₀.heap.objs.size<=c
 hd:X.calm=true->X.A.handled=none
 frames:X.A.frames=some X.stack
 stk:X.stack=X.outer\/(X.stack=X.env::X.outer/\X.env.frame=some X.env.locals)
 exf:∀b∈X.ex,b≠X.env.locals/\∀x c,X.env.cells.lookup x=some c->c≠b
 bs:∀b o,X.base.get? b=some o->X.s₀.heap.get? b=some o/\X.H₀ b=none
 bsz:X.base.objs.size<=X.s₀.heap.objs.size
 noex:∀b o,X.base.get? b=some o->b∉X.ex
 exfs:∀b∈X.ex,b∉X.fs
 funs:X.s₀.heap.FunFrames X.base X.outer
 frf:∀b∈X.fs,X.H₀ b=none
structure Inv (X:Cx) (pins:List (Addr × Obj)) (σ:List (Option V)) (H:Hp) (s:Shared):Prop where
 ok:X.Ok
 os:s.os=X.s₀.os
 bare:AllBare s.gens
 base:Un X.fs X.ex X.H₀ H X.s₀.heap s.heap
 loc:∃m,s.heap.Ns X.env.locals m/\∀(i:Nat) (x:Str) (v:V),X.N[i]?=some x->σ[i]?=some (some v)->Vis X.env.scope x->∃u,aP v u/\Bg X.env s.heap m x u
 cell:∀x c,X.env.cells.lookup x=some c->∃v,s.heap.IsCell c v
 free:H X.env.locals=none
 freeC:∀x c,X.env.cells.lookup x=some c->H c=none
 pin:∀p∈X.pn++pins,s.heap.get? p.1=some p.2/\H p.1=none/\p.1≠X.env.locals/\p.1∉X.fs/\∀v,p.2.data≠.cell v
 hok:HOk X.prog X.w H s.heap
 len:σ.length=X.N.length
section
variable {X:Cx}{pins:List (Addr × Obj)}{σ:List (Option V)}{H H':Hp}{s:Shared}{h':Heap}
theorem Cx.Ok.nofr (ok:X.Ok){b:Addr}{o:Obj} (e:X.base.get? b=some o):b∉X.fs:=λhb=>by
 have:=(ok.funs.mem hb).1
 rw [e]at this;cases this
theorem Inv.bs (I:Inv X pins σ H s):∀b o,X.base.get? b=some o->s.heap.get? b=some o/\H b=none:=λb o e=>
 ⟨I.base.keep b o (I.ok.bs b o e).1 (I.ok.bs b o e).2 (I.ok.nofr e) (I.ok.noex b o e),I.base.free b o (I.ok.bs b o e).1 (I.ok.bs b o e).2 (I.ok.noex b o e)⟩
theorem Inv.bk (I:Inv X pins σ H s):∀b o,X.base.get? b=some o->s.heap.get? b=some o:=λb o e=>(I.bs b o e).1
theorem Inv.mod (I:Inv X pins σ H s):Mod X.K X.mg X.base:=I.ok.mod
theorem Inv.kIn (I:Inv X pins σ H s):X.K.In s.heap:=I.ok.mod.kin.keeps I.bk
theorem Inv.lt (I:Inv X pins σ H s):X.env.locals < s.heap.objs.size:=let ⟨_,hn,_⟩:=I.loc;hn.lt
theorem Inv.sz (I:Inv X pins σ H s):X.s₀.heap.objs.size<=s.heap.objs.size:=Nat.le_trans I.ok.above (Nat.le_of_lt I.lt)
theorem Inv.nofs (I:Inv X pins σ H s){a:Addr} (h:s.heap.objs.size<=a):a∉X.fs:=λhb=>by
 obtain⟨_,o,ho,_⟩:=I.ok.funs.mem hb
 exact absurd (Nat.lt_of_lt_of_le (Heap.lt_size ho) (Nat.le_trans I.sz h)) (Nat.lt_irrefl _)
theorem Inv.cne (I:Inv X pins σ H s):∀x c,X.env.cells.lookup x=some c->c≠X.env.locals:=λx c e z=>by
 obtain⟨v,o,ho,hd⟩:=I.cell x c e
 obtain⟨m,⟨o',es,ep,ho',hd',_⟩,_⟩:=I.loc
 rw [z,ho']at ho;cases ho;rw [hd']at hd;cases hd
theorem Inv.funs (I:Inv X pins σ H s):s.heap.FunFrames X.base X.outer:=by
 have all:∀(l:List Env),(∀b∈frs l,b∈X.fs)->X.s₀.heap.FunFrames X.base l->s.heap.FunFrames X.base l:=by
  intro l
  induction l with
  | nil=>intro _ _;trivial
  | cons env r ih=>
   intro hs hl
   obtain⟨hk,⟨L,o,hf,hn,ho,hd⟩,hr⟩:=hl
   have hL:L∈X.fs:=hs L (by unfold frs;rw [List.filterMap_cons,hf];exact List.mem_cons_self)
   obtain⟨sl,e⟩:=I.base.slot L o ho (I.ok.frf L hL) hL λz=>I.ok.exfs L z hL
   exact⟨hk,⟨L,_,hf,hn,e,hd⟩,ih (λb hb=>hs b (by unfold frs;rw [List.filterMap_cons,hf];exact List.mem_cons_of_mem _ hb)) hr⟩
 exact all X.outer (λ_ hb=>hb) I.ok.funs
theorem Inv.stack (I:Inv X pins σ H s):s.heap.FunFrames X.base X.stack:=by
 rcases I.ok.stk with e | ⟨e,hf⟩
 ·rw [e];exact I.funs
 ·rw [e]
  obtain⟨m,hn,_⟩:=I.loc
  refine .cons (by rw [I.ok.kind];decide) hf hn ?_ I.funs
  exact Heap.get?_none_of_le (Nat.le_trans I.ok.bsz I.ok.above)
theorem Inv.stkSub (I:Inv X pins σ H s):∀b∈frs X.stack,b∈X.env.locals::X.fs:=λb hb=>by
 rcases I.ok.stk with e | ⟨e,hf⟩
 ·rw [e]at hb;exact List.mem_cons_of_mem _ hb
 ·rw [e]at hb
  unfold frs at hb
  rw [List.filterMap_cons,hf]at hb
  exact hb
theorem Inv.stkFree (I:Inv X pins σ H s):∀b∈frs X.stack,H b=none:=λb hb=>by
 rcases List.mem_cons.mp (I.stkSub b hb) with e | hb
 ·rw [e];exact I.free
 ·obtain⟨_,o,ho,_⟩:=I.ok.funs.mem hb
  exact I.base.free b o ho (I.ok.frf b hb) λz=>I.ok.exfs b z hb
theorem Inv.step {g':Array GenState}{t':Nat}{d':Drawn}{ch:List Addr} (I:Inv X pins σ H s)
  (hch:∀b∈ch,(b∈X.ex\/X.s₀.heap.objs.size<=b)/\b≠X.env.locals/\(∀x c,X.env.cells.lookup x=some c->c≠b)/\∀p∈X.pn++pins,p.1≠b)
  (keep:∀b o,b≠X.env.locals->b∉X.fs->b∉ch->s.heap.get? b=some o->H b=none->h'.get? b=some o)
  (slot:∀b o,b≠X.env.locals->b∈X.fs->b∉ch->s.heap.get? b=some o->H b=none->∃sl,h'.get? b=some { o with slots:=sl }) (free:∀b o,b∉ch->s.heap.get? b=some o->H b=none->H' b=none)
  (there:∀b o,b∉ch->s.heap.get? b=some o->∃o',h'.get? b=some o')
  (tups:∀b xs,H b=some (.tup xs)->H' b=some (.tup xs)) (frzs:∀b o u,H b=some (.frz o u)->H' b=some (.frz o u)) (tbls:∀b ps,H b=some (.tbl ps)->∃more,H' b=some (.tbl (ps++more)))
  (ns:∀m,s.heap.Ns X.env.locals m->h'.Ns X.env.locals m) (hok:HOk X.prog X.w H' h') (hg:AllBare g') :
  Inv X pins σ H' { s with heap:=h',gens:=g',drawn:=d',toks:=t' }:=by
 have neL:∀b o,X.s₀.heap.get? b=some o->b≠X.env.locals:=λb o e=>Nat.ne_of_lt (Nat.lt_of_lt_of_le (Heap.lt_size e) I.ok.above)
 have neC:∀b o,X.s₀.heap.get? b=some o->b∉X.ex->b∉ch:=λb o e hx hb=>by
  rcases (hch b hb).1 with z | z
  ·exact hx z
  ·exact absurd (Nat.lt_of_lt_of_le (Heap.lt_size e) z) (Nat.lt_irrefl _)
 have cellK:∀x c,X.env.cells.lookup x=some c->∀v,s.heap.IsCell c v->h'.IsCell c v:=λx c e v ⟨o,ho,hd⟩=>by
  have nch:c∉ch:=λz=>(hch c z).2.2.1 x c e rfl
  by_cases hc:c∈X.fs
  ·obtain⟨sl,q⟩:=slot c o (I.cne x c e) hc nch ho (I.freeC x c e)
   exact⟨_,q,hd⟩
  ·exact⟨o,keep c o (I.cne x c e) hc nch ho (I.freeC x c e),hd⟩
 refine⟨I.ok,I.os,hg,⟨λb o e n hb hx=>?_,λb o e n hb hx=>?_,λb o e n hx=>?_,λb o e hx=>?_,λb xs e=>tups b xs (I.base.tups b xs e),λb o xs e=>frzs b o xs (I.base.frzs b o xs e),λb ps e=>?_⟩,?_,λx c e=>?_,?_,λx c e=>?_,λp hp=>?_,hok,I.len⟩
 ·exact keep b o (neL b o e) hb (neC b o e hx) (I.base.keep b o e n hb hx) (I.base.free b o e n hx)
 ·obtain⟨sl,e1⟩:=I.base.slot b o e n hb hx
  obtain⟨sl',e2⟩:=slot b _ (neL b o e) hb (neC b o e hx) e1 (I.base.free b o e n hx)
  exact⟨sl',e2⟩
 ·obtain⟨o',e1⟩:=I.base.there b o e hx
  exact free b o' (neC b o e hx) e1 (I.base.free b o e n hx)
 ·obtain⟨o',e1⟩:=I.base.there b o e hx
  exact there b o' (neC b o e hx) e1
 ·obtain⟨m1,e1⟩:=I.base.tbls b ps e
  obtain⟨m2,e2⟩:=tbls b _ e1
  exact⟨m1++m2,by rw [e2,Array.append_assoc]⟩
 ·obtain⟨m,hn,hl⟩:=I.loc
  refine⟨m,ns m hn,λi x v e1 e2 e3=>?_⟩
  obtain⟨u,r,l⟩:=hl i x v e1 e2 e3
  refine⟨u,r,?_⟩
  rcases l with l | ⟨k,c,e,z⟩
  ·exact .inl l
  ·exact .inr ⟨k,c,e,cellK x c e _ z⟩
 ·obtain⟨v,z⟩:=I.cell x c e
  exact⟨v,cellK x c e v z⟩
 ·obtain⟨m,⟨o,_,_,ho,_⟩,_⟩:=I.loc
  exact free _ o (λz=>(hch _ z).2.1 rfl) ho I.free
 ·obtain⟨v,o,ho,hd⟩:=I.cell x c e
  exact free c o (λz=>(hch c z).2.2.1 x c e rfl) ho (I.freeC x c e)
 ·obtain⟨e,n,ne,nf,d⟩:=I.pin p hp
  have nch:p.1∉ch:=λz=>(hch p.1 z).2.2.2 p hp rfl
  exact⟨keep p.1 p.2 ne nf nch e n,free p.1 p.2 nch e n,ne,nf,d⟩
theorem Inv.un {t':Nat} (I:Inv X pins σ H s) (u:Un X.fs [] H H' s.heap h') (hok:HOk X.prog X.w H' h'):Inv X pins σ H' { s with heap:=h',toks:=t' }:=by
 obtain⟨m,⟨o,es,ep,ho,r⟩,_⟩:=id I.loc
 obtain⟨sl,hL⟩:=u.any ho I.free (by simp)
 exact I.step (g':=s.gens) (d':=s.drawn) (ch:=[]) (λ_ z=>nomatch z) (λb o _ hb _ e n=>u.keep b o e n hb (by simp)) (λb o _ hb _ e n=>u.slot b o e n hb (by simp)) (λb o _ e n=>u.free b o e n (by simp)) (λb o _ e=>u.there b o e (by simp)) u.tups u.frzs u.tbls (λm' hm=>by
  obtain⟨o',es',ep',ho',r'⟩:=hm
  rw [ho]at ho';cases ho'
  exact⟨_,es',ep',hL,r'⟩) hok I.bare
theorem Inv.call {g':Array GenState}{t':Nat}{d':Drawn}{ch:List Addr} (I:Inv X pins σ H s) (u:Un (frs X.stack) ch H H' s.heap h') (hok:HOk X.prog X.w H' h') (hg:AllBare g')
  (hch:∀b∈ch,(b∈X.ex\/X.s₀.heap.objs.size<=b)/\b≠X.env.locals/\(∀x c,X.env.cells.lookup x=some c->c≠b)/\∀p∈X.pn++pins,p.1≠b) :
  Inv X pins σ H' { s with heap:=h',gens:=g',drawn:=d',toks:=t' }:=by
 obtain⟨m,⟨o,es,ep,ho,r⟩,_⟩:=id I.loc
 obtain⟨sl,hL⟩:=u.any ho I.free λz=>(hch _ z).2.1 rfl
 exact I.step (ch:=ch) hch (λb o hL hb hc e n=>u.keep b o e n (λz=>(List.mem_cons.mp (I.stkSub b z)).elim hL hb) hc) (λb o _ _ hc e n=>u.any e n hc) (λb o hc e n=>u.free b o e n hc) (λb o hc e=>u.there b o e hc) u.tups u.frzs u.tbls (λm' hm=>by
  obtain⟨o',es',ep',ho',r'⟩:=hm
  rw [ho]at ho';cases ho'
  exact⟨_,es',ep',hL,r'⟩) hok hg
theorem Inv.turned {t':Nat}{it:Addr} (I:Inv X pins σ H s) (k:∀b o,b≠it->s.heap.get? b=some o->h'.get? b=some o) (hn:H it=none) (hL:it≠X.env.locals)
  (h1:it∈X.ex\/X.s₀.heap.objs.size<=it) (h2:∀x c,X.env.cells.lookup x=some c->c≠it) (h3:∀p∈X.pn++pins,p.1≠it):Inv X pins σ H { s with heap:=h',toks:=t' }:=by
 have nit:∀b u,H b=some u->b≠it:=λb u e z=>by rw [z,hn]at e;cases e
 refine I.step (g':=s.gens) (d':=s.drawn) (ch:=[it]) (λb hb=>?_) (λb o _ _ hc e _=>k b o (λz=>hc (by simp [z])) e) (λb o _ _ hc e _=>⟨o.slots,k b o (λz=>hc (by simp [z])) e⟩) (λ_ _ _ _ n=>n)
  (λb o hc e=>⟨o,k b o (λz=>hc (by simp [z])) e⟩) (λ_ _ e=>e) (λ_ _ _ e=>e) (λb ps e=>⟨#[],by rw [e];simp⟩) (λm hm=>?_) (λb u e=>?_) I.bare
 ·have e:b=it:=by simpa using hb
  subst e
  exact⟨h1,hL,h2,h3⟩
 ·obtain⟨o,es,ep,ho,r⟩:=hm
  exact⟨o,es,ep,k _ o (Ne.symm hL) ho,r⟩
 ·refine(I.hok b u e).stay (λc v hc q=>k c v ?_ q) (λ_ q=>q) λ_ _ q=>q
  rcases hc with z | z
  ·rw [z];exact nit b u e
  ·exact nit c _ z
theorem Inv.tok (I:Inv X pins σ H s) (t:Nat):Inv X pins σ H { s with toks:=t }:=I.un (h':=s.heap) (t':=t) Un.refl I.hok
theorem Inv.kept {t':Nat} (I:Inv X pins σ H s) (k:∀b u,s.heap.get? b=some u->h'.get? b=some u):Inv X pins σ H { s with heap:=h',toks:=t' }:=I.un (Un.kept k) (I.hok.kept k)
theorem Inv.laid {a:Addr}{o:HO}{t':Nat} (I:Inv X pins σ H s) (k:∀b u,s.heap.get? b=some u->h'.get? b=some u) (hp:s.heap.objs.size<=a) (new:br X.prog X.w (upd H a o) h' a o) :
  Inv X pins σ (upd H a o) { s with heap:=h',toks:=t' }:=I.un (Un.laid k hp (I.hok.fresh hp)) (I.hok.laid k hp new)
theorem Inv.write {x e:Addr}{o:HO}{t':Nat} (I:Inv X pins σ H s) (mu:Mut (H x)) (he:e=x\/H e=some (.own x)) (k:∀b u,b≠e->s.heap.get? b=some u->h'.get? b=some u) (heo:∃u,h'.get? e=some u)
  (new:br X.prog X.w (upd H x o) h' x o):Inv X pins σ (upd H x o) { s with heap:=h',toks:=t' }:=I.un (Un.write mu he k heo) (I.hok.write mu he k heo new)
theorem Inv.pins_of {pins':List (Addr × Obj)} (I:Inv X pins σ H s) (h:∀p∈pins',s.heap.get? p.1=some p.2/\H p.1=none/\p.1≠X.env.locals/\p.1∉X.fs/\∀v,p.2.data≠.cell v):Inv X pins' σ H s:=
 ⟨I.ok,I.os,I.bare,I.base,I.loc,I.cell,I.free,I.freeC,λp hp=>(List.mem_append.mp hp).elim (λz=>I.pin p (List.mem_append_left _ z)) (h p),I.hok,I.len⟩
theorem jF {N:List Str} (hN:N.Nodup){i j:Nat}{x:Str} (a:N[i]?=some x) (b:N[j]?=some x):i=j:=by
 obtain⟨h1,e1⟩:=List.getElem?_eq_some_iff.mp a
 obtain⟨h2,e2⟩:=List.getElem?_eq_some_iff.mp b
 exact(List.getElem_inj hN).mp (e1.trans e2.symm)
theorem kF {M:Model}{A:Around}{E:Value->Shared->Prop}{i:Nat}{x:Str}{v:V}{u:Value}{Q:Unit->Shared->Prop} (I:Inv X pins σ H s) (hN:X.N.Nodup) (hi:X.N[i]?=some x) (hx:Loc X.env.scope x) (r:aP v u)
  (h:∀s',Inv X pins (σ.set i (some v)) H s'->(∃a,Heap.SameBut a s.heap s'.heap/\(a=X.env.locals\/X.env.cells.lookup x=some a))->Q () s') (hf:X.fn x=true\/X.env.scope.names.lookup x=some .local:=by first | exact .inl rfl | exact .inr rfl | assumption):wpAny M A (storeName X.env x u) Q E s:=by
 obtain⟨m,hn,hl⟩:=id I.loc
 have hcls:(X.env.scope.kind == .class || (X.env.scope.kind == .module && X.env.locals != X.env.globals))=false:=by rw [I.ok.kind];rfl
 have hiσ:i < σ.length:=by rw [I.len];exact(List.getElem?_eq_some_iff.mp hi).1
 have cne:=I.cne
 have tracked:∀{a:Addr}{h':Heap},(∃o,s.heap.get? a=some o/\H a=none)->Heap.SameBut a s.heap h'->HOk X.prog X.w H h':=λ{a h'} ha hs b ob e=>by
  obtain⟨_,_,hfree⟩:=ha
  refine(I.hok b ob e).stay (λc w' hc q=>(hs.2 c ?_).trans q) (λ_ q=>q) λ_ _ q=>q
  rintro rfl
  rcases hc with rfl | hc
  ·rw [hfree]at e;cases e
  ·rw [hfree]at hc;cases hc
 rcases hx with hk | hk
 ·refine wpAny_storeName_local hk hn (λh' hn' hs=>?_) hcls
  obtain⟨oL,_,_,hoL,_⟩:=id hn
  refine h _ ⟨I.ok,I.os,I.bare,⟨λb o e n hb hx=>?_,λb o e n hb hx=>?_,I.base.free,λb o e hx=>?_,I.base.tups,I.base.frzs,I.base.tbls⟩,⟨_,hn',λj y v' e1 e2 e3=>?_⟩,λy c e=>?_,I.free,I.freeC,λp hp=>?_,tracked ⟨oL,hoL,I.free⟩ hs,by simpa using I.len⟩ ⟨_,hs,.inl rfl⟩
  ·exact(hs.2 b (Nat.ne_of_lt (Nat.lt_of_lt_of_le (Heap.lt_size e) I.ok.above))).trans (I.base.keep b o e n hb hx)
  ·obtain⟨sl,e1⟩:=I.base.slot b o e n hb hx
   exact⟨sl,(hs.2 b (Nat.ne_of_lt (Nat.lt_of_lt_of_le (Heap.lt_size e) I.ok.above))).trans e1⟩
  ·obtain⟨o',e1⟩:=I.base.there b o e hx
   exact⟨o',(hs.2 b (Nat.ne_of_lt (Nat.lt_of_lt_of_le (Heap.lt_size e) I.ok.above))).trans e1⟩
  ·by_cases hj:j=i
   ·subst hj
    rw [hi]at e1;cases e1
    rw [List.getElem?_set_self hiσ]at e2
    cases e2
    exact⟨u,r,.inl ⟨hk,by simp⟩⟩
   ·rw [List.getElem?_set_ne (Ne.symm hj)]at e2
    obtain⟨u',r',q⟩:=hl j y v' e1 e2 e3
    refine⟨u',r',?_⟩
    rcases q with⟨k,e⟩ | ⟨k,c,e,z⟩
    ·refine .inl ⟨k,?_⟩
     have:y≠x:=λe=>hj (jF hN e1 (e ▸ hi))
     simp [this,e]
    ·exact .inr ⟨k,c,e,z.sameBut hs (cne y c e)⟩
  ·obtain⟨w',z⟩:=I.cell y c e
   exact⟨w',z.sameBut hs (cne y c e)⟩
  ·obtain⟨e,n,ne,nf,d⟩:=I.pin p hp
   exact⟨(hs.2 p.1 ne).trans e,n,ne,nf,d⟩
 ·have hfn:X.fn x=true:=by
   rcases hf with z | z
   ·exact z
   ·rw [z]at hk;cases hk
  obtain⟨c,hc⟩:=I.ok.has x (.inl hk)
  obtain⟨w',z⟩:=I.cell x c hc
  refine wpAny_storeName_cell I.ok.kind hk hc z (λh' hc' hs=>?_)
  obtain⟨oc,hoc,hocd⟩:=id z
  refine h { s with heap:=h' } ⟨I.ok,I.os,I.bare,⟨λb o e n hb hx=>?_,λb o e n hb hx=>?_,I.base.free,λb o e hx=>?_,I.base.tups,I.base.frzs,I.base.tbls⟩,⟨m,hn.sameBut hs (Ne.symm (cne x c hc)),λj y v' e1 e2 e3=>?_⟩,λy c' e=>?_,I.free,I.freeC,λp hp=>?_,tracked ⟨oc,hoc,I.freeC x c hc⟩ hs,by simpa using I.len⟩ ⟨c,hs,.inr hc⟩
  ·exact(hs.2 b (Nat.ne_of_lt (Nat.lt_of_lt_of_le (Heap.lt_size e) (I.ok.cab x c hfn hc)))).trans (I.base.keep b o e n hb hx)
  ·obtain⟨sl,e1⟩:=I.base.slot b o e n hb hx
   exact⟨sl,(hs.2 b (Nat.ne_of_lt (Nat.lt_of_lt_of_le (Heap.lt_size e) (I.ok.cab x c hfn hc)))).trans e1⟩
  ·obtain⟨o',e1⟩:=I.base.there b o e hx
   exact⟨o',(hs.2 b (Nat.ne_of_lt (Nat.lt_of_lt_of_le (Heap.lt_size e) (I.ok.cab x c hfn hc)))).trans e1⟩
  ·by_cases hj:j=i
   ·subst hj
    rw [hi]at e1;cases e1
    rw [List.getElem?_set_self hiσ]at e2
    cases e2
    exact⟨u,r,.inr ⟨.inl hk,c,hc,hc'⟩⟩
   ·rw [List.getElem?_set_ne (Ne.symm hj)]at e2
    obtain⟨u',r',q⟩:=hl j y v' e1 e2 e3
    refine⟨u',r',?_⟩
    rcases q with q | ⟨k,c',e,z'⟩
    ·exact .inl q
    ·refine .inr ⟨k,c',e,z'.sameBut hs ?_⟩
     rintro rfl
     exact hj (jF hN e1 (I.ok.inj _ _ _ e hc ▸ hi))
  ·by_cases hcc:c'=c
   ·subst hcc;exact⟨_,hc'⟩
   ·obtain⟨w2,z2⟩:=I.cell y c' e
    exact⟨w2,z2.sameBut hs hcc⟩
  ·obtain⟨e,n,ne,nf,d⟩:=I.pin p hp
   refine⟨(hs.2 p.1 ?_).trans e,n,ne,nf,d⟩
   intro q
   rw [q,hoc]at e
   have q':oc=p.2:=Option.some.inj e
   exact d w' (by rw [<- q'];exact hocd)
theorem gR {M:Model}{A:Around}{E:Value->Shared->Prop}{i:Nat}{x:Str}{v:V}{u:Value}{Q:Unit->Shared->Prop} (I:Inv X pins σ H s) (hN:X.N.Nodup) (hi:X.N[i]?=some x) (hx:Loc X.env.scope x) (r:aP v u)
  (h:∀s',Inv X pins (σ.set i (some v)) H s'->Q () s') (hf:X.fn x=true\/X.env.scope.names.lookup x=some .local:=by first | exact .inl rfl | exact .inr rfl | assumption):wpAny M A (storeName X.env x u) Q E s:=
 kF I hN hi hx r (λs' I' _=>h s' I') hf
theorem Inv.call' {s':Shared}{ch:List Addr} (I:Inv X pins σ H s) (ho:s'.os=s.os) (u:Un (frs X.stack) ch H H' s.heap s'.heap) (hok:HOk X.prog X.w H' s'.heap) (hg:AllBare s'.gens)
  (hch:∀b∈ch,(b∈X.ex\/X.s₀.heap.objs.size<=b)/\b≠X.env.locals/\(∀x c,X.env.cells.lookup x=some c->c≠b)/\∀p∈X.pn++pins,p.1≠b):Inv X pins σ H' s':=by
 obtain⟨h',g',d',t',o'⟩:=s'
 have e:o'=s.os:=ho
 subst e
 exact I.call (g':=g') (t':=t') (d':=d') u hok hg hch
end
noncomputable abbrev XK:=Value->Option Addr->Hp->Prop
noncomputable abbrev St:=List (Option V)
noncomputable abbrev VK:=V->Hp->Prop
noncomputable abbrev TE:=St->Hp->VK->Prop
noncomputable abbrev TT:=St->Hp->(Bool->Hp->Prop)->Prop
noncomputable abbrev TA:=St->Hp->(List V->Hp->Prop)->Prop
structure Ends where
 nx:St->Hp->Prop
 rt:VK
 bk:St->Hp->Prop:=λ_ _=>False
 ct:St->Hp->Prop:=λ_ _=>False
noncomputable abbrev TS:=Ends->St->Hp->Prop
inductive EP (X:Cx) (pins:List (Addr × Obj)) (σ:St) (Q:VK) (u:Value) (s':Shared):Prop
 | mk (v H') (h1:Inv X pins σ H' s') (h2:aP v u) (h3:Q v H')
def TP (X:Cx) (pins:List (Addr × Obj)) (σ:St) (Q:Bool->Hp->Prop) (b:Bool) (s':Shared):Prop:=∃H',Inv X pins σ H' s'/\Q b H'
inductive AP (X:Cx) (pins:List (Addr × Obj)) (σ:St) (Q:List V->Hp->Prop) (us:List Value) (s':Shared):Prop
 | mk (vs H') (h1:Inv X pins σ H' s') (h2:aJ vs us) (h3:Q vs H')
def SP (X:Cx) (pins:List (Addr × Obj)) (D:Ends) (f:Flow) (s':Shared):Prop:=
 match f with
 | .next=>∃σ' H',Inv X pins σ' H' s'/\D.nx σ' H'
 | .brk=>∃σ' H',Inv X pins σ' H' s'/\D.bk σ' H'
 | .cont=>∃σ' H',Inv X pins σ' H' s'/\D.ct σ' H'
 | .ret u=>∃v σ' H',Inv X pins σ' H' s'/\aP v u/\D.rt v H'
def PE (X:Cx) (e:Expr) (t:TE):Prop:=
 ∀(pins:List (Addr × Obj)) (s:Shared) (σ:St) (H:Hp) (Q:VK),Inv X pins σ H s->t σ H Q->wpAny (model X.prog X.w) X.A (eval e X.env) (EP X pins σ Q) X.xe s
def PT (X:Cx) (e:Expr) (t:TT):Prop:=
 ∀(pins:List (Addr × Obj)) (s:Shared) (σ:St) (H:Hp) (Q:Bool->Hp->Prop),Inv X pins σ H s->t σ H Q->wpAny (model X.prog X.w) X.A (isTrue e X.env (eval e X.env)) (TP X pins σ Q) X.xe s
def PW (X:Cx) (e:Expr) (t:TT):Prop:=
 ∀(whole:Sem Value) (pins:List (Addr × Obj)) (s:Shared) (σ:St) (H:Hp) (Q:Bool->Hp->Prop),Inv X pins σ H s->t σ H Q->wpAny (model X.prog X.w) X.A (isTrue e X.env whole) (TP X pins σ Q) X.xe s
theorem PW.pt {X:Cx}{e:Expr}{t:TT} (h:PW X e t):PT X e t:=h _
def PA (X:Cx) (es:List Expr) (t:TA):Prop:=
 ∀(pos:Pos) (pins:List (Addr × Obj)) (s:Shared) (σ:St) (H:Hp) (Q:List V->Hp->Prop),Inv X pins σ H s->t σ H Q->wpAny (model X.prog X.w) X.A (spliced (backTo pos (starEach es X.env))) (AP X pins σ Q) X.xe s
def PS (X:Cx) (st:Stmt) (t:TS):Prop:=
 ∀(pins:List (Addr × Obj)) (s:Shared) (σ:St) (H:Hp) (D:Ends),Inv X pins σ H s->t D σ H->wpAny (model X.prog X.w) X.A (exec st X.env) (SP X pins D) X.xe s
def PSs (X:Cx) (st:List Stmt) (t:TS):Prop:=
 ∀(pins:List (Addr × Obj)) (s:Shared) (σ:St) (H:Hp) (D:Ends),Inv X pins σ H s->t D σ H->wpAny (model X.prog X.w) X.A (execs st X.env) (SP X pins D) X.xe s
theorem thn {α:Type}{t:Sem α}{Q Q':α->Shared->Prop}{M:Model}{A:Around}{E:Value->Shared->Prop}{s:Shared} (h:wpAny M A t Q E s) (hQ:∀a s,Q a s->Q' a s):wpAny M A t Q' E s:=wpAny_mono h hQ λ_ _ x=>x
section
variable {X:Cx}
inductive eG (i:Nat) (σ:St) (H:Hp) (Q:VK):Prop
 | mk (v) (h1:σ[i]?=some (some v)) (h2:Q v H):eG i σ H Q
noncomputable def tC (v:V):TE:=λ_ H Q=>Q v H
theorem yU {i:Nat}{x:Str}{pos:Pos} (hN:X.N[i]?=some x) (hv:Vis X.env.scope x) (hd:(x == ("__debug__" : Str))=false:=by decide) (hcd:(x == ("__classdict__" : Str))=false:=by decide):PE X (.Name x pos) (eG i):=by
 intro pins s σ H Q I h
 obtain⟨v,e,h⟩:=h
 obtain⟨m,hn,hl⟩:=I.loc
 obtain⟨u,r,l⟩:=hl i x v hN e hv
 have fin:EP X pins σ Q u s:=⟨v,H,I,r,h⟩
 rcases l with⟨hk,hm⟩ | ⟨hk,c,hc,hcell⟩
 ·exact wpAny_Name (wpAny_loadName_local I.ok.kind hk hn hm fin) hd
 ·rcases hk with hk | hk
  ·exact wpAny_Name (wpAny_loadName_cell I.ok.kind hk hc hcell fin) hd
  ·exact wpAny_Name (wpAny_loadName_free I.ok.kind hk hc hcell fin hcd) hd
theorem ai {i j pos}:PE X (.Constant (.int i) j pos) (tC (.int i)):=λ_ _ _ H _ I h=>wpAny_Constant_int ⟨.int i,H,I.tok _,⟨_,rfl⟩,h⟩
theorem dA {b j pos}:PE X (.Constant (.bool b) j pos) (tC (.bl b)):=λ_ _ _ H _ I h=>Constant_bool ⟨.bl b,H,I,rfl,h⟩
theorem gC {j pos}:PE X (.Constant .none j pos) (tC .non):=λ_ _ _ H _ I h=>Constant_none ⟨.non,H,I,rfl,h⟩
theorem bh {x j pos}:PE X (.Constant (.str x) j pos) (tC (.str x)):=λ_ _ _ H _ I h=>Calls.Constant_str ⟨.str x,H,I.tok _,⟨_,rfl⟩,h⟩
def Gl (X:Cx) (x:Str):Prop:=X.env.kindOf x=some .globalImplicit
theorem fV {E:Value->Shared->Prop}{pins:List (Addr × Obj)}{s:Shared}{σ:St}{H:Hp}{x:Str}{u:Value}{pos:Pos}{Q:Value->Shared->Prop} (I:Inv X pins σ H s) (hg:Gl X x) (hm:X.mg x=some u) (h:Q u s)
  (hd:(x == ("__debug__" : Str))=false:=by decide):wpAny (model X.prog X.w) X.A (eval (.Name x pos) X.env) Q E s:=
 Calls.Name_function_global I.ok.kind hg (Calls.loadGlobal_global (by rw [I.ok.glob];exact I.mod.glob.keeps I.bk) hm h) hd
theorem iy {E:Value->Shared->Prop}{pins:List (Addr × Obj)}{s:Shared}{σ:St}{H:Hp}{x:Str}{u:Value}{pos:Pos}{Q:Value->Shared->Prop} (I:Inv X pins σ H s) (hg:Gl X x) (hm:X.mg x=none) (hv:bootBuiltins x=some u) (h:Q u s)
  (hn:x≠"__name__":=by decide) (hd:(x == ("__debug__" : Str))=false:=by decide):wpAny (model X.prog X.w) X.A (eval (.Name x pos) X.env) Q E s:=by
 obtain⟨mb,h1,h2⟩:=I.mod.blt
 exact Calls.Name_function_global I.ok.kind hg (Calls.loadGlobal_builtin (by rw [I.ok.glob];exact I.mod.glob.keeps I.bk) hm (by rw [I.ok.blt];exact h1.keeps I.bk) ((h2 x hn).trans hv) h) hd
theorem dc {x:Str}{v:V}{u:Value}{pos:Pos} (hg:Gl X x) (hm:X.mg x=some u) (r:aP v u) (hd:(x == ("__debug__" : Str))=false:=by decide):PE X (.Name x pos) (tC v):=
 λ_ _ _ H _ I h=>fV I hg hm ⟨v,H,I,r,h⟩ hd
theorem de {x:Str}{v:V}{u:Value}{pos:Pos} (hg:Gl X x) (hm:X.mg x=none) (hv:bootBuiltins x=some u) (r:aP v u) (hn:x≠"__name__":=by decide) (hd:(x == ("__debug__" : Str))=false:=by decide):PE X (.Name x pos) (tC v):=
 λ_ _ _ H _ I h=>iy I hg hm hv ⟨v,H,I,r,h⟩ hn hd
variable {a b:Expr}{ta tb:TE}{pos:Pos}
def PC (X:Cx) (op:CmpOp) (a b:Expr) (t:TE):Prop:=
 ∀(pins:List (Addr × Obj)) (s:Shared) (σ:St) (H:Hp) (Q:VK),Inv X pins σ H s->t σ H Q->
  wpAny (model X.prog X.w) X.A (eval a X.env) (λv s₁=>wpAny (model X.prog X.w) X.A (eval b X.env) (λu s₂=>wpAny (model X.prog X.w) X.A (compareOp op v u) (EP X pins σ Q) X.xe s₂) X.xe s₁) X.xe s
theorem nO (b:Expr){op:CmpOp} (h:op≠.In) (h2:op≠.NotIn):behindInMarks op b=false:=by
 have e1:(op == CmpOp.In)=false:=by cases op <;> first | rfl | exact absurd rfl h
 have e2:(op == CmpOp.NotIn)=false:=by cases op <;> first | rfl | exact absurd rfl h2
 cases b <;> simp [behindInMarks,e1,e2]
noncomputable def AZ (ta:TE):TE:=λσ H Q=>ta σ H λx H1=>Q (.bl (decide (x=.non))) H1
noncomputable def Aa (ta:TE):TE:=λσ H Q=>ta σ H λx H1=>Q (.bl (!decide (x=.non))) H1
theorem aP.none_iff {x:V}{v:Value} (r:aP x v):(v == Value.none)=decide (x=.non):=by
 cases x with
 | non=>cases r;rfl
 | bl _=>cases r;rfl
 | int _=>obtain⟨t,rfl⟩:=r;rfl
 | str _=>obtain⟨t,rfl⟩:=r;rfl
 | byt _=>obtain⟨t,rfl⟩:=r;rfl
 | flt _=>obtain⟨t,rfl⟩:=r;rfl
 | ref _=>cases r;rfl
 | ty _=>cases r;rfl
theorem iw {j pos'} (ha:PE X a ta):PC X .Is a (.Constant .none j pos') (AZ ta):=by
 intro pins s σ H Q I h
 refine thn (ha pins s σ H _ I h) λv s1 ⟨x,H1,I1,r1,q1⟩=>?_
 exact Constant_none (is_none_gen ⟨.bl _,H1,I1,by rw [r1.none_iff];rfl,q1⟩)
theorem wS {j pos'} (ha:PE X a ta):PC X .IsNot a (.Constant .none j pos') (Aa ta):=by
 intro pins s σ H Q I h
 refine thn (ha pins s σ H _ I h) λv s1 ⟨x,H1,I1,r1,q1⟩=>?_
 exact Constant_none (isnot_none_gen ⟨.bl _,H1,I1,by rw [r1.none_iff];rfl,q1⟩)
inductive tbR (x:V) (H1:Hp) (Q:Bool->Hp->Prop):Prop
 | mk (c) (h1:x=.bl c) (h2:Q c H1):tbR x H1 Q
noncomputable def tB (t:TE):TT:=λσ H Q=>t σ H λx H1=>tbR x H1 Q
theorem yW {op:CmpOp}{t:TE} (h:PC X op a b t) (h1:behindInMarks op b=false:=by first | exact nO _ (by decide) (by decide) | rfl):PE X (.Compare a [op] [b] pos) t:=λpins s σ H Q I hw=>wpAny_Compare1 (h pins s σ H Q I hw) h1
theorem eX {op:CmpOp}{t:TE} (h:PC X op a b t) (h1:behindInMarks op b=false:=by first | exact nO _ (by decide) (by decide) | rfl):PT X (.Compare a [op] [b] pos) (tB t):=by
 intro pins s σ H Q I hw
 refine wpAny_isTrue_Compare1 (thn (h pins s σ H _ I hw) λv s1 h1=>thn h1 λu s2 h2=>thn h2 λc s3 ⟨x,H1,I1,r1,q1⟩=>?_) h1
 obtain⟨d,rfl,q⟩:=q1
 cases r1
 exact wpAny_truthy_bool ⟨H1,I1,q⟩
theorem bL {e:Expr}{t:TE} (h:PE X e t) (he:∀whole,isTrue e X.env whole=(do let v <- whole;standAt e.pos;holding [v] (truthy v)):=by intro _;rfl):PT X e (tB t):=by
 intro pins s σ H Q I hw
 refine isTrue_plain (thn (h pins s σ H _ I hw) λv s1 ⟨x,H1,I1,r1,q1⟩=>?_) (he _)
 obtain⟨d,rfl,q⟩:=q1
 cases r1
 exact wpAny_truthy_bool ⟨H1,I1,q⟩
variable {tA tB':TT}{rest:List Expr}
noncomputable def Ag (t u:TT):TT:=λσ H Q=>t σ H λc H1=>if c=true then u σ H1 Q else Q false H1
noncomputable def tOr (t u:TT):TT:=λσ H Q=>t σ H λc H1=>if c=true then Q true H1 else u σ H1 Q
noncomputable def AX (t:TT):TT:=λσ H Q=>t σ H λc H1=>Q (!c) H1
theorem dC (ha:PT X a tA):PW X (.BoolOp .And [a] pos) tA:=by
 intro wh pins s σ H Q I h
 refine isTrue_and (thn (ha pins s σ H Q I h) λc s1 e=>?_)
 cases c with
 | true=>exact isTrue_and_nil e
 | false=>exact e
theorem oY (ha:PT X a tA):PW X (.BoolOp .Or [a] pos) tA:=by
 intro wh pins s σ H Q I h
 refine isTrue_or (thn (ha pins s σ H Q I h) λc s1 e=>?_)
 cases c with
 | false=>exact isTrue_or_nil e
 | true=>exact e
theorem dz (ha:PT X a tA) (hb:PW X (.BoolOp .And (b::rest) pos) tB'):PW X (.BoolOp .And (a::b::rest) pos) (Ag tA tB'):=by
 intro wh pins s σ H Q I h
 refine isTrue_and (thn (ha pins s σ H _ I h) λc s1 ⟨H1,I1,q1⟩=>?_)
 cases c with
 | true=>exact hb wh pins s1 σ H1 Q I1 q1
 | false=>exact⟨H1,I1,q1⟩
theorem nB (ha:PT X a tA) (hb:PW X (.BoolOp .Or (b::rest) pos) tB'):PW X (.BoolOp .Or (a::b::rest) pos) (tOr tA tB'):=by
 intro wh pins s σ H Q I h
 refine isTrue_or (thn (ha pins s σ H _ I h) λc s1 ⟨H1,I1,q1⟩=>?_)
 cases c with
 | true=>exact⟨H1,I1,q1⟩
 | false=>exact hb wh pins s1 σ H1 Q I1 q1
theorem bV (ha:PT X a tA):PT X (.UnaryOp .Not a pos) (AX tA):=by
 intro pins s σ H Q I h
 exact isTrue_not (ha pins s σ H (λc H1=>Q (!c) H1) I h)
noncomputable def xP (ta tb:TE):TE:=λσ H Q=>ta σ H λx H1=>∃c,x=.bl c/\if c=true then tb σ H1 Q else Q (.bl false) H1
noncomputable def A9 (ta:TE):TE:=λσ H Q=>ta σ H λx H1=>∃c,x=.bl c/\Q (.bl (!c)) H1
theorem eJ {op}{t:TE} (h:PE X a t):PE X (.BoolOp op [a] pos) t:=λpins s σ H Q I hw=>BoolOp_one (h pins s σ H Q I hw)
theorem da (ha:PE X a ta) (hb:PE X (.BoolOp .And (b::rest) pos) tb):PE X (.BoolOp .And (a::b::rest) pos) (xP ta tb):=by
 intro pins s σ H Q I h
 refine BoolOp_and (thn (ha pins s σ H _ I h) λv s1 ⟨x,H1,I1,r1,q1⟩=>?_)
 obtain⟨c,rfl,q1⟩:=q1
 cases r1
 refine wpAny_truthy_bool ?_
 cases c with
 | true=>exact hb pins s1 σ H1 Q I1 q1
 | false=>exact⟨.bl false,H1,I1,rfl,q1⟩
theorem p5 (ha:PE X a ta):PE X (.UnaryOp .Not a pos) (A9 ta):=by
 intro pins s σ H Q I h
 refine UnaryOp_ (thn (ha pins s σ H _ I h) λv s1 ⟨x,H1,I1,r1,q1⟩=>?_)
 obtain⟨c,rfl,q1⟩:=q1
 cases r1
 exact not_of (wpAny_truthy_bool ⟨.bl (!c),H1,I1,rfl,q1⟩)
noncomputable def tIf (t:TT) (ta tb:TE):TE:=λσ H Q=>t σ H λc H1=>if c=true then ta σ H1 Q else tb σ H1 Q
theorem uw {c:Expr} (hc:PT X c tA) (ha:PE X a ta) (hb:PE X b tb):PE X (.IfExp c a b pos) (tIf tA ta tb):=by
 intro pins s σ H Q I h
 refine wpAny_IfExp (thn (hc pins s σ H _ I h) λd s1 ⟨H1,I1,q1⟩=>?_)
 cases d with
 | true=>exact ha pins s1 σ H1 Q I1 q1
 | false=>exact hb pins s1 σ H1 Q I1 q1
end
def SqL (K:PySem.W.Frag) (H:Hp) (a:Addr) (xs:List V):Prop:=
 Rd H a (.lst xs)\/
  ∃(o:Obj) (its:Array Value) (n:Nat),K.lookup a=some o/\o.cls=.type "list"/\o.dict=none/\o.data=.seq its n/\its.size<=sizeLine/\aJ xs its.toList
def SqT (K:PySem.W.Frag) (H:Hp) (a:Addr) (xs:List V):Prop:=
 Rd H a (.tup xs)\/
  ∃(o:Obj) (its:Array Value) (n:Nat),K.lookup a=some o/\o.cls=.type "tuple"/\o.data=.seq its n/\its.size<=sizeLine/\aJ xs its.toList
noncomputable def Be:Value->Option V
 | .none=>some .non
 | .bool b=>some (.bl b)
 | .int i _=>some (.int i)
 | .str x _=>some (.str x)
 | .bytes b _=>some (.byt b)
 | .float b _=>some (.flt b)
 | .ref a=>some (.ref a)
 | .type n=>some (.ty n)
 | _=>none
theorem aP.abs {x:V}{u:Value} (r:aP x u):Be u=some x:=by
 cases x with
 | non=>cases r;rfl
 | bl _=>cases r;rfl
 | int _=>obtain⟨t,rfl⟩:=r;rfl
 | str _=>obtain⟨t,rfl⟩:=r;rfl
 | byt _=>obtain⟨t,rfl⟩:=r;rfl
 | flt _=>obtain⟨t,rfl⟩:=r;rfl
 | ref _=>cases r;rfl
 | ty _=>cases r;rfl
theorem aP.inj {x y:V}{u:Value} (r:aP x u) (q:aP y u):x=y:=Option.some.inj (r.abs.symm.trans q.abs)
theorem aJ.inj:∀{xs ys:List V}{us:List Value},aJ xs us->aJ ys us->xs=ys
 | _,_,_,.nil,.nil=>rfl
 | _,_,_,.cons r t,.cons r' t'=>by rw [r.inj r',aJ.inj t t']
section
variable {X:Cx}{pins:List (Addr × Obj)}{σ:St}{H:Hp}{s:Shared}{a:Addr}{xs ys:List V}
theorem SqL.of {K:W.Frag} (h:H a=some (.lst xs)):SqL K H a xs:=.inl (.inl h)
theorem SqT.of {K:W.Frag} (h:H a=some (.tup xs)):SqT K H a xs:=.inl (.inl h)
theorem Inv.list (I:Inv X pins σ H s) (h:SqL X.K H a xs):∃its:List Value,aJ xs its/\PlainL s.heap a its.toArray/\xs.length<=sizeLine:=by
 rcases h with h | ⟨o,its,n,hk,hc,hd,hs,hz,r⟩
 ·obtain⟨z,its,n,r,e⟩:=h.ok I.hok
  exact⟨its,r,⟨_,n,e,rfl,rfl,rfl⟩,z⟩
 ·refine⟨its.toList,r,⟨o,n,I.kIn a o hk,hc,hd,by simpa using hs⟩,?_⟩
  have e:=r.length
  simp only [Array.length_toList]at e
  omega
theorem Inv.tuple (I:Inv X pins σ H s) (h:SqT X.K H a xs):∃its:List Value,aJ xs its/\IsTup s.heap a its.toArray/\xs.length<=sizeLine:=by
 rcases h with h | ⟨o,its,n,hk,hc,hs,hz,r⟩
 ·obtain⟨z,its,r,p⟩:=h.ok I.hok
  exact⟨its,r,p,z⟩
 ·refine⟨its.toList,r,⟨o,I.kIn a o hk,hc,n,by simpa using hs⟩,?_⟩
  have e:=r.length
  simp only [Array.length_toList]at e
  omega
theorem Inv.list_inj (I:Inv X pins σ H s) (h:SqL X.K H a xs) (h':SqL X.K H a ys):xs=ys:=by
 obtain⟨its,r,⟨o,n,e,_,_,d⟩,_⟩:=I.list h
 obtain⟨its',r',⟨o',n',e',_,_,d'⟩,_⟩:=I.list h'
 rw [e]at e';cases e'
 rw [d]at d'
 injection d' with d1 _
 have:its=its':=by simpa using congrArg Array.toList d1
 subst this
 exact r.inj r'
theorem Inv.tuple_inj (I:Inv X pins σ H s) (h:SqT X.K H a xs) (h':SqT X.K H a ys):xs=ys:=by
 obtain⟨its,r,⟨o,e,_,n,d⟩,_⟩:=I.tuple h
 obtain⟨its',r',⟨o',e',_,n',d'⟩,_⟩:=I.tuple h'
 rw [e]at e';cases e'
 rw [d]at d'
 injection d' with d1 _
 have:its=its':=by simpa using congrArg Array.toList d1
 subst this
 exact r.inj r'
end
noncomputable abbrev Cx.wish (X:Cx) (E:Value->Shared->Prop):Cx:={ X with xe:=E }
noncomputable abbrev Cx.nox (X:Cx):Cx:=X.wish λ_ _=>False
theorem Cx.Ok.wish {X:Cx} (ok:X.Ok) (E:Value->Shared->Prop):(X.wish E).Ok:=
 ⟨ok.mod,ok.kind,ok.glob,ok.blt,ok.above,ok.inj,ok.has,ok.cab,ok.hd,ok.frames,ok.stk,ok.exf,ok.bs,ok.bsz,ok.noex,ok.exfs,ok.funs,ok.frf⟩
theorem Cx.Ok.unwish {X:Cx}{E:Value->Shared->Prop} (ok:(X.wish E).Ok):X.Ok:=
 ⟨ok.mod,ok.kind,ok.glob,ok.blt,ok.above,ok.inj,ok.has,ok.cab,ok.hd,ok.frames,ok.stk,ok.exf,ok.bs,ok.bsz,ok.noex,ok.exfs,ok.funs,ok.frf⟩
section
variable {X:Cx}{pins:List (Addr × Obj)}{σ:St}{H:Hp}{s:Shared}{E:Value->Shared->Prop}
theorem Inv.wish (I:Inv X pins σ H s) (E:Value->Shared->Prop):Inv (X.wish E) pins σ H s:=⟨I.ok.wish E,I.os,I.bare,I.base,I.loc,I.cell,I.free,I.freeC,I.pin,I.hok,I.len⟩
theorem Inv.unwish (I:Inv (X.wish E) pins σ H s):Inv X pins σ H s:=⟨I.ok.unwish,I.os,I.bare,I.base,I.loc,I.cell,I.free,I.freeC,I.pin,I.hok,I.len⟩
theorem SP.unwish {D:Ends}{f:Flow}{s':Shared} (h:SP (X.wish E) pins D f s'):SP X pins D f s':=by
 cases f with
 | next=>obtain⟨σ',H',I,q⟩:=h;exact⟨σ',H',I.unwish,q⟩
 | brk=>obtain⟨σ',H',I,q⟩:=h;exact⟨σ',H',I.unwish,q⟩
 | cont=>obtain⟨σ',H',I,q⟩:=h;exact⟨σ',H',I.unwish,q⟩
 | ret u=>obtain⟨v,σ',H',I,r,q⟩:=h;exact⟨v,σ',H',I.unwish,r,q⟩
theorem PSs.nox {st:List Stmt}{t:TS} (h:PSs X.nox st t):PSs X st t:=λpins s σ H D I hw=>
 wpAny_mono (h pins s σ H D (I.wish _) hw) (λ_ _ q=>q.unwish) λ_ _ z=>False.elim z
end
section
variable {X:Cx}{st:Stmt}{rest:List Stmt}{t u:TS}{e:Expr}{te:TE}{pos:Pos}
noncomputable def t4:TS:=λD σ H=>D.nx σ H
noncomputable def yj (t u:TS):TS:=λD σ H=>t { D with nx:=u D } σ H
theorem aF:PSs X [] t4:=λ_ _ σ H _ I h=>wpAny_execs_nil ⟨σ,H,I,h⟩
theorem ah (h1:PS X st t) (h2:PSs X rest u):PSs X (st::rest) (yj t u):=by
 intro pins s σ H D I h
 refine wpAny_execs_cons (thn (h1 pins s σ H { D with nx:=u D } I h) λf s1 q=>?_)
 cases f with
 | next=>
  obtain⟨σ',H',I',q⟩:=q
  exact h2 pins s1 σ' H' D I' q
 | ret v=>exact q
 | brk=>exact q
 | cont=>exact q
theorem aj (h1:PS X st t):PSs X [st] t:=by
 intro pins s σ H D I h
 refine wpAny_execs_cons (thn (h1 pins s σ H D I h) λf s1 q=>?_)
 cases f with
 | next=>exact wpAny_execs_nil q
 | ret v=>exact q
 | brk=>exact q
 | cont=>exact q
noncomputable def Af:TS:=λD σ H=>D.ct σ H
theorem nI:PS X (.Continue pos) Af:=λ_ _ σ H _ I h=>wpAny_Continue ⟨σ,H,I,h⟩
theorem Inv.quiet {pins:List (Addr × Obj)}{σ:St}{H:Hp}{s:Shared} (I:Inv X pins σ H s):interactive X.env=false:=by simp [interactive,I.ok.kind]
noncomputable def xO (te:TE):TS:=λD σ H=>te σ H λ_ H1=>D.nx σ H1
theorem aM (he:PE X e te) (hs:swapsWith e none pos.line X.env=pure false:=by rfl):PS X (.Expr e pos) (xO te):=by
 intro pins s σ H D I h
 exact wpAny_Expr_any (thn (he pins s σ H _ I h) λv s1 ⟨x,H1,I1,r1,q1⟩=>⟨σ,H1,I1,q1⟩) I.quiet hs
noncomputable def A6 (te:TE):TS:=λD σ H=>te σ H D.rt
theorem az (he:PE X e te):PS X (.Return (some e) pos) (A6 te):=by
 intro pins s σ H D I h
 exact wpAny_Return_some (thn (he pins s σ H _ I h) λv s1 ⟨x,H1,I1,r1,q1⟩=>⟨x,σ,H1,I1,r1,q1⟩)
noncomputable def wc (c:TT) (t u:TS):TS:=λD σ H=>c σ H λb H1=>if b=true then t D σ H1 else u D σ H1
theorem aW {c:Expr}{a b:List Stmt}{tc:TT} (hc:PT X c tc) (ha:PSs X a t) (hb:PSs X b u):PS X (.If c a b pos) (wc tc t u):=by
 intro pins s σ H D I h
 refine wpAny_If (thn (hc pins s σ H _ I h) λd s1 ⟨H1,I1,q1⟩=>?_)
 cases d with
 | true=>exact ha pins s1 σ H1 D I1 q1
 | false=>exact hb pins s1 σ H1 D I1 q1
noncomputable def yk:TS:=λ_ _ _=>False
theorem cA:PS X st yk:=λ_ _ _ _ _ _ h=>h.elim
end
noncomputable abbrev TG:=V->St->Hp->(St->Hp->Prop)->Prop
noncomputable abbrev TGs:=List V->St->Hp->(St->Hp->Prop)->Prop
def PG (X:Cx) (target:Expr) (t:TG):Prop:=
 ∀(pins:List (Addr × Obj)) (s:Shared) (σ:St) (H:Hp) (v:V) (u:Value) (Q:St->Hp->Prop),Inv X pins σ H s->aP v u->t v σ H Q->
  wpAny (model X.prog X.w) X.A (assign target X.env u) (λ_ s'=>∃σ' H',Inv X pins σ' H' s'/\Q σ' H') X.xe s
def PGs (X:Cx) (ts:List Expr) (t:TGs):Prop:=
 ∀(pins:List (Addr × Obj)) (s:Shared) (σ:St) (H:Hp) (vs:List V) (us:List Value) (Q:St->Hp->Prop),Inv X pins σ H s->aJ vs us->t vs σ H Q->
  wpAny (model X.prog X.w) X.A (assignInOrder ((assignEach ts X.env).map (·.2)) us) (λ_ s'=>∃σ' H',Inv X pins σ' H' s'/\Q σ' H') X.xe s
noncomputable abbrev zP:=V->V->V->Hp->(Hp->Prop)->Prop
def AT (X:Cx) (t:zP):Prop:=
 ∀(pins:List (Addr × Obj)) (s:Shared) (σ:St) (H:Hp) (o i v:V) (ov iv u:Value) (Q:Hp->Prop),Inv X pins σ H s->aP o ov->aP i iv->aP v u->t o i v H Q->
  wpAny (model X.prog X.w) X.A (setItem ov iv u) (λ_ s'=>∃H',Inv X pins σ H' s'/\Q H') X.xe s
section
variable {X:Cx}{pos:Pos}
noncomputable def aK (i:Nat):TG:=λv σ H Q=>Q (σ.set i (some v)) H
theorem ay {i:Nat}{x:Str} (hN:X.N.Nodup) (hi:X.N[i]?=some x) (hx:Loc X.env.scope x) (hf:X.fn x=true\/X.env.scope.names.lookup x=some .local:=by first | exact .inl rfl | exact .inr rfl | assumption):PG X (.Name x pos) (aK i):=by
 intro pins s σ H v u Q I r h
 exact wpAny_assign_Name (gR I hN hi hx r (λs' I'=>⟨_,H,I',h⟩) hf)
noncomputable def AK:TGs:=λvs σ H Q=>vs=[]/\Q σ H
inductive qF (t:TG) (u:TGs) (vs:List V) (σ:St) (H:Hp) (Q:St->Hp->Prop):Prop
 | mk (v r) (h1:vs=v::r) (h2:t v σ H λσ' H'=>u r σ' H' Q):qF t u vs σ H Q
theorem cg:PGs X [] AK:=by
 intro pins s σ H vs us Q I r h
 obtain⟨e,h⟩:=h
 subst e
 cases r
 exact assignInOrder_nil ⟨σ,H,I,h⟩
theorem aA {e:Expr}{es:List Expr}{t:TG}{u:TGs} (h1:PG X e t) (h2:PGs X es u)
  (hs:(assignEach (e::es) X.env).map (·.2)=assign e X.env::(assignEach es X.env).map (·.2):=by rfl):PGs X (e::es) (qF t u):=by
 intro pins s σ H vs us Q I r h
 obtain⟨v,vr,e1,h⟩:=h
 subst e1
 cases r with
 | cons r rr=>
  rw [hs]
  refine assignInOrder_cons (thn (h1 pins s σ H _ _ _ I r h) λ_ s1 ⟨σ1,H1,I1,q1⟩=>?_)
  exact h2 pins s1 σ1 H1 _ _ Q I1 rr q1
inductive zD (K:PySem.W.Frag) (n:Nat) (t:TGs) (v:V) (σ:St) (H:Hp) (Q:St->Hp->Prop):Prop
 | mk (a xs) (h1:v=.ref a) (h2:SqT K H a xs) (h3:xs.length=n) (h4:t xs σ H Q):zD K n t v σ H Q
theorem cR {es:List Expr}{k:Nat}{t:TGs}{n:Nat} (hc:X.calm=true) (h:PGs X es t)
  (hn:(assignEach es X.env).length=n:=by rfl) (hst:(assignEach es X.env).findIdx? (·.1)=none:=by rfl):PG X (.Tuple es k pos) (zD X.K n t):=by
 intro pins s σ H v u Q I r hw
 obtain⟨a,xs,e1,hq,hl,hw⟩:=hw
 subst e1
 cases r
 obtain⟨its,rv,ht,hz⟩:=I.tuple hq
 refine assign_Tuple_tuple (I.ok.hd hc) ht (by simp [hn,<- hl,rv.length]) hst λh' hx=>?_
 have I1:Inv X pins σ H { s with heap:=h' }:=I.kept (t':=s.toks) λb o e=>hx b o (Nat.ne_of_lt (Heap.lt_size e)) e
 exact h pins _ σ H xs _ Q I1 (by simpa using rv) hw
noncomputable def Bb (to ti:TE) (t:zP):TG:=λv σ H Q=>to σ H λo H1=>ti σ H1 λi H2=>t o i v H2 λH3=>Q σ H3
theorem mh {o i:Expr}{to ti:TE}{t:zP} (ho:PE X o to) (hi:PE X i ti) (hs:AT X t)
  (ha:∀v,assign (.Subscript o i pos) X.env v=(do
   let ov <- holding [v] (eval o X.env)
   let iv <- holding [v,ov] (eval i X.env)
   standAt pos
   holding [v,ov,iv] (setItem ov iv v)
   release [v,ov,iv] []):=by intro _;rfl):PG X (.Subscript o i pos) (Bb to ti t):=by
 intro pins s σ H v u Q I r h
 rw [ha]
 refine zB0 (wpAny_holding (thn (ho pins s σ H _ I h) λov s1 ⟨x,H1,I1,r1,q1⟩=>?_))
 refine zB0 (wpAny_holding (thn (hi pins s1 σ H1 _ I1 q1) λiv s2 ⟨y,H2,I2,r2,q2⟩=>?_))
 refine zB0 (wpAny_standAt (zB0 (wpAny_holding (thn (hs pins s2 σ H2 x y v ov iv u _ I2 r1 r2 r q2) λ_ s3 ⟨H3,I3,q3⟩=>?_))))
 exact wpAny_release ⟨σ,H3,I3,q3⟩
noncomputable def t7 (te:TE) (g:TG):TS:=λD σ H=>te σ H λx H1=>g x σ H1 D.nx
theorem iu {tg e:Expr}{te:TE}{g:TG} (he:PE X e te) (hg:PG X tg g) (hs:swapsWithSole [tg] e pos.line X.env=pure false:=by rfl) (hw:swappedStores [tg] e X.env=pure none:=by rfl)
  (h1:(assignEach [tg] X.env).map (·.2)=[assign tg X.env]:=by rfl):PS X (.Assign [tg] e pos) (t7 te g):=by
 intro pins s σ H D I h
 refine wpAny_Assign_stores (thn (he pins s σ H _ I h) λv s1 ⟨x,H1,I1,r1,q1⟩=>?_) hs hw
 rw [h1]
 exact thn (hg pins s1 σ H1 x v _ I1 r1 q1) λ_ s2 q=>q
theorem aB {i:Nat}{x:Str}{e:Expr}{te:TE}{pos':Pos} (hN:X.N.Nodup) (hi:X.N[i]?=some x) (hx:Loc X.env.scope x) (he:PE X e te) (hs:swapsWith e (some (.Name x pos')) pos.line X.env=pure false:=by rfl) (hf:X.fn x=true\/X.env.scope.names.lookup x=some .local:=by first | exact .inl rfl | exact .inr rfl | assumption) :
  PS X (.Assign [.Name x pos'] e pos) (t7 te (aK i)):=by
 intro pins s σ H D I h
 refine wpAny_Assign_Name (thn (he pins s σ H _ I h) λv s1 ⟨y,H1,I1,r1,q1⟩=>?_) hs
 exact gR I1 hN hi hx r1 (λs2 I2=>⟨_,H1,I2,q1⟩) hf
end
section
variable {X:Cx}{pos:Pos}
end
structure It where
 go:Nat->Hp->Prop
 yld:Nat->Hp->V->Hp->Prop
 stop:Nat->Hp->Prop
def gN (X:Cx) (pins:List (Addr × Obj)) (H:Hp) (b:Addr):Prop:=
 H b=none/\b≠X.env.locals/\b∉X.fs/\(b∈X.ex\/X.s₀.heap.objs.size<=b)/\(∀x c,X.env.cells.lookup x=some c->c≠b)/\∀p∈X.pn++pins,p.1≠b
theorem Inv.fpOk {X:Cx}{pins:List (Addr × Obj)}{σ:St}{H H':Hp}{s:Shared}{b:Addr} (I:Inv X pins σ H s) (hb:s.heap.objs.size<=b) (hn:H' b=none):gN X pins H' b:=by
 refine⟨hn,Nat.ne_of_gt (Nat.lt_of_lt_of_le I.lt hb),I.nofs hb,.inr (Nat.le_trans I.sz hb),λx c e z=>?_,λp hp z=>?_⟩
 ·obtain⟨v,q⟩:=I.cell x c e
  exact absurd (Nat.lt_of_lt_of_le q.lt (by rw [z];exact hb)) (Nat.lt_irrefl _)
 ·exact absurd (Nat.lt_of_lt_of_le (Heap.lt_size (I.pin p hp).1) (by rw [z];exact hb)) (Nat.lt_irrefl _)
structure Turn (P:Program) (w:World) (K:PySem.W.Frag) (tg:Expr) (J:It) (fp:List Addr) (it:Addr) (tn:Nat->Heap->Prop):Prop where
 mem:it∈fp
 obj:∀i h,tn i h->∀b∈fp,∃o,h.get? b=some o/\∀v,o.data≠.cell v
 keep:∀i h h',tn i h->(∀b∈fp,∀o,h.get? b=some o->h'.get? b=some o)->tn i h'
 item:∀(X:Cx),X.prog=P->X.w=w->X.K=K->X.calm=true->∀(i:Nat) (pins:List (Addr × Obj)) (s:Shared) (σ:St) (H:Hp) (E:Value->Shared->Prop),Inv X pins σ H s->(∀b∈fp,gN X pins H b)->tn i s.heap->J.go i H->
  wpAny (model P w) X.A (pyNext (.ref it)) (λr s1=>∃u,r=some u/\
   wpAny (model P w) X.A (letOwnedTupleGo tg (.ref it) u) (λ_ s2=>∃x H',Inv X pins σ H' s2/\aP x u/\J.yld i H x H'/\tn (i+1) s2.heap/\∀b∈fp,H' b=none) E s1) E s
 done:∀(X:Cx),X.prog=P->X.w=w->X.K=K->X.calm=true->∀(i:Nat) (pins:List (Addr × Obj)) (s:Shared) (σ:St) (H:Hp) (E:Value->Shared->Prop),Inv X pins σ H s->(∀b∈fp,gN X pins H b)->tn i s.heap->J.stop i H->
  wpAny (model P w) X.A (pyNext (.ref it)) (λr s1=>r=none/\Inv X pins σ H s1) E s
 self:∀(A:Around) (i:Nat) (s:Shared) (Q:Value->Shared->Prop) (E:Value->Shared->Prop),tn i s.heap->Q (.ref it) s->wpAny (model P w) A (pyIter (.ref it)) Q E s
noncomputable abbrev TI:=St->Hp->(It->Hp->Prop)->Prop
def PIE (X:Cx) (pins:List (Addr × Obj)) (σ:St) (tg:Expr) (R:It->Hp->Prop) (itv:Value) (s2:Shared):Prop:=
 ∃(it:Addr) (fp:List Addr) (tn:Nat->Heap->Prop) (J:It) (H':Hp),itv=.ref it/\Inv X pins σ H' s2/\Turn X.prog X.w X.K tg J fp it tn/\tn 0 s2.heap/\(∀b∈fp,gN X pins H' b)/\R J H'
def PI (X:Cx) (tg iter:Expr) (wi:TI):Prop:=
 ∀(pins:List (Addr × Obj)) (s:Shared) (σ:St) (H:Hp) (R:It->Hp->Prop),Inv X pins σ H s->wi σ H R->
  wpAny (model X.prog X.w) X.A (eval iter X.env) (λv s1=>wpAny (model X.prog X.w) X.A (pyIter v) (PIE X pins σ tg R) X.xe s1) X.xe s
theorem nX {M : Model} {A : Around} {E : Value → Shared → Prop} {s : Shared} {tg : Expr} {it : Addr} {u : Value} {o : Obj} {n : String} {vs : Array Value} {Q : Unit → Shared → Prop} (ho : s.heap.get? it = some o) (hc : o.cls = .type n) (hd : o.data = .fields vs)
    (hn : ["enumerate", "zip", "dict_itemiterator", "dict_reverseitemiterator", "odict_iterator", "itertools.zip_longest", "itertools.pairwise"].contains n = false) (hQ : Q () s) : wpAny M A (letOwnedTupleGo tg (.ref it) u) Q E s := by
  unfold letOwnedTupleGo
  cases tg <;> first
    | exact zP0 hQ
    | (cases u <;> first
        | exact zP0 hQ
        | (refine zB0 (wpAny_load ho ?_)
           rw [hc, hd]
           show wpAny M A (if (["enumerate", "zip", "dict_itemiterator", "dict_reverseitemiterator", "odict_iterator", "itertools.zip_longest", "itertools.pairwise"].contains n && vs[0]? == some (rawInt _)) = true then _ else _) Q E s
           rw [if_neg (by intro h; rw [hn, Bool.false_and] at h; cases h)]
           exact zP0 hQ))
noncomputable def Itl (K:PySem.W.Frag) (a:Addr):It:=
 ⟨λi H=>∃xs x,SqL K H a xs/\xs[i]?=some x,λi H x H'=>H'=H/\∀xs,SqL K H a xs->xs[i]?=some x,λi H=>∃xs,SqL K H a xs/\xs.length<=i⟩
noncomputable def Itt (K:PySem.W.Frag) (a:Addr):It:=
 ⟨λi H=>∃xs x,SqT K H a xs/\xs[i]?=some x,λi H x H'=>H'=H/\∀xs,SqT K H a xs->xs[i]?=some x,λi H=>∃xs,SqT K H a xs/\xs.length<=i⟩
noncomputable def Itr (lo:Int) (n:Nat):It:=⟨λi _=>i < n,λi H x H'=>H'=H/\x=.int (lo+i),λi _=>n<=i⟩
theorem qW {P:Program}{w:World}{K:W.Frag}{tg:Expr} (a it:Addr):Turn P w K tg (Itl K a) [it] it (λi h=>h.IsListIter it a i) where
 mem:=by simp
 obj:=λi h st b hb=>by
  have e:b=it:=by simpa using hb
  subst e
  obtain⟨o,e,c,d⟩:=st
  exact⟨o,e,λv z=>by rw [d]at z;cases z⟩
 keep:=λi h h' st k=>st.at λo e=>k it (by simp) o e
 item:=by
  intro X hP hw hK hc i pins s σ H E I hf st hg
  subst hP hw hK
  obtain⟨xs,x,hq,hx⟩:=hg
  obtain⟨its,rv,p,hz⟩:=I.list hq
  obtain⟨u,hu,ru⟩:=rv.get hx
  obtain⟨f0,f1,f2,f3,f4,f5⟩:=hf it (by simp)
  refine wpAny_pyNext_list_item st p.isList (x:=u) (by simpa using hu) λh' st' sb=>?_
  have I1:Inv X pins σ H { s with heap:=h' }:=I.turned (t':=s.toks) (λb o hb e=>(sb.2 b hb).trans e) f0 f1 f3 f4 f5
  obtain⟨o,e,c,d⟩:=id st'
  exact⟨u,rfl,nX (s:={ s with heap:=h' }) e c d (by decide) ⟨x,H,I1,ru,⟨rfl,λys hy=>by rw [I.list_inj hy hq];exact hx⟩,st',λb hb=>(hf b hb).1⟩⟩
 done:=by
  intro X hP hw hK hc i pins s σ H E I hf st hg
  subst hP hw hK
  obtain⟨xs,hq,hx⟩:=hg
  obtain⟨its,rv,p,hz⟩:=I.list hq
  obtain⟨f0,f1,f2,f3,f4,f5⟩:=hf it (by simp)
  have hl:=rv.length
  exact wpAny_pyNext_list_end (I.ok.hd hc) st p.isList (by simp;omega) λh' eb=>⟨rfl,I.turned (t':=s.toks) (λb o hb e=>eb b o hb e) f0 f1 f3 f4 f5⟩
 self:=λ_ _ _ _ _ st h=>wpAny_pyIter_listiter st h
theorem oi {P:Program}{w:World}{K:W.Frag}{tg:Expr} (a it:Addr):Turn P w K tg (Itt K a) [it] it (λi h=>h.IsTupleIter it a i) where
 mem:=by simp
 obj:=λi h st b hb=>by
  have e:b=it:=by simpa using hb
  subst e
  obtain⟨o,e,c,d⟩:=st
  exact⟨o,e,λv z=>by rw [d]at z;cases z⟩
 keep:=λi h h' st k=>st.at λo e=>k it (by simp) o e
 item:=by
  intro X hP hw hK hc i pins s σ H E I hf st hg
  subst hP hw hK
  obtain⟨xs,x,hq,hx⟩:=hg
  obtain⟨its,rv,p,hz⟩:=I.tuple hq
  obtain⟨u,hu,ru⟩:=rv.get hx
  obtain⟨f0,f1,f2,f3,f4,f5⟩:=hf it (by simp)
  refine wpAny_pyNext_tuple_item st (show s.heap.IsTuple a its.toArray from p) (x:=u) (by simpa using hu) λh' st' sb=>?_
  have I1:Inv X pins σ H { s with heap:=h' }:=I.turned (t':=s.toks) (λb o hb e=>(sb.2 b hb).trans e) f0 f1 f3 f4 f5
  obtain⟨o,e,c,d⟩:=id st'
  exact⟨u,rfl,nX (s:={ s with heap:=h' }) e c d (by decide) ⟨x,H,I1,ru,⟨rfl,λys hy=>by rw [I.tuple_inj hy hq];exact hx⟩,st',λb hb=>(hf b hb).1⟩⟩
 done:=by
  intro X hP hw hK hc i pins s σ H E I hf st hg
  subst hP hw hK
  obtain⟨xs,hq,hx⟩:=hg
  obtain⟨its,rv,p,hz⟩:=I.tuple hq
  obtain⟨f0,f1,f2,f3,f4,f5⟩:=hf it (by simp)
  have hl:=rv.length
  exact wpAny_pyNext_tuple_end (I.ok.hd hc) st (show s.heap.IsTuple a its.toArray from p) (by simp;omega) λh' eb=>⟨rfl,I.turned (t':=s.toks) (λb o hb e=>eb b o hb e) f0 f1 f3 f4 f5⟩
 self:=λ_ _ _ _ _ st h=>wpAny_pyIter_tupleiter st h
theorem oj {P:Program}{w:World}{K:W.Frag}{tg:Expr} (it:Addr) (lo:Int) (n:Nat):Turn P w K tg (Itr lo n) [it] it (λi h=>IsRangeIter h it (lo+(i:Nat) * 1) ((n:Int) - (i:Nat)) 1) where
 mem:=by simp
 obj:=λi h st b hb=>by
  have e:b=it:=by simpa using hb
  subst e
  exact⟨_,st,λv z=>by
   have z':Data.fields _=Data.cell v:=z
   cases z'⟩
 keep:=λi h h' st k=>k it (by simp) _ st
 item:=by
  intro X hP hw hK hc i pins s σ H E I hf st hg
  subst hP hw hK
  obtain⟨f0,f1,f2,f3,f4,f5⟩:=hf it (by simp)
  have W:=Walks.range (prog:=X.prog) (w:=X.w) (I.ok.hd hc) it lo 1 n
  refine W.item i s _ _ hg st λv h' tk hv st' kk=>?_
  obtain⟨t,rfl⟩:=hv
  have I1:Inv X pins σ H { s with heap:=h',toks:=tk }:=I.turned (λb o hb e=>kk b o (by simpa using hb) e) f0 f1 f3 f4 f5
  refine⟨_,rfl,nX (s:={ s with heap:=h',toks:=tk }) (n:="range_iterator") st' rfl rfl (by decide) ⟨.int (lo+i),H,I1,⟨t,?_⟩,⟨rfl,rfl⟩,st',λb hb=>(hf b hb).1⟩⟩
  rw [Int.mul_one]
 done:=by
  intro X hP hw hK hc i pins s σ H E I hf st hg
  subst hP hw hK
  obtain⟨f0,f1,f2,f3,f4,f5⟩:=hf it (by simp)
  exact wpAny_pyNext_range_end (I.ok.hd hc) st (by have:n<=i:=hg;omega) λh' eb=>⟨rfl,I.turned (t':=s.toks) (λb o hb e=>eb b o hb e) f0 f1 f3 f4 f5⟩
 self:=λ_ _ _ _ _ st h=>wpAny_pyIter_rangeiter st h
section
variable {X:Cx}{tg:Expr}
noncomputable def vo (K:PySem.W.Frag) (tl:TE):TI:=λσ H R=>tl σ H λx H1=>∃a,x=.ref a/\(∃xs,SqL K H1 a xs)/\R (Itl K a) H1
noncomputable def B8 (K:PySem.W.Frag) (tl:TE):TI:=λσ H R=>tl σ H λx H1=>∃a,x=.ref a/\(∃xs,SqT K H1 a xs)/\R (Itt K a) H1
theorem bC {l:Expr}{tl:TE} (hl:PE X l tl):PI X tg l (vo X.K tl):=by
 intro pins s σ H R I h
 refine thn (hl pins s σ H _ I h) λv s1 ⟨x,H1,I1,r1,q1⟩=>?_
 obtain⟨a,e,⟨xs,hq⟩,q⟩:=q1
 subst e
 cases r1
 obtain⟨its,rv,p,hz⟩:=I1.list hq
 refine wpAny_pyIter_list p.isList ?_
 refine⟨s1.heap.objs.size,[s1.heap.objs.size],_,_,H1,rfl,I1.kept (t':=s1.toks) λb o e=>zH0 _ e,qW a _,⟨_,Heap.get?_push_size _ rfl,rfl,rfl⟩,λb hb=>?_,q⟩
 have e:b=s1.heap.objs.size:=by simpa using hb
 subst e
 exact I1.fpOk (Nat.le_refl _) (I1.hok.fresh (Nat.le_refl _))
theorem yR {l:Expr}{tl:TE} (hl:PE X l tl):PI X tg l (B8 X.K tl):=by
 intro pins s σ H R I h
 refine thn (hl pins s σ H _ I h) λv s1 ⟨x,H1,I1,r1,q1⟩=>?_
 obtain⟨a,e,⟨xs,hq⟩,q⟩:=q1
 subst e
 cases r1
 obtain⟨its,rv,p,hz⟩:=I1.tuple hq
 refine wpAny_pyIter_tuple (show s1.heap.IsTuple a its.toArray from p) ?_
 refine⟨s1.heap.objs.size,[s1.heap.objs.size],_,_,H1,rfl,I1.kept (t':=s1.toks) λb o e=>zH0 _ e,oi a _,⟨_,Heap.get?_push_size _ rfl,rfl,rfl⟩,λb hb=>?_,q⟩
 have e:b=s1.heap.objs.size:=by simpa using hb
 subst e
 exact I1.fpOk (Nat.le_refl _) (I1.hok.fresh (Nat.le_refl _))
theorem uj {pins:List (Addr × Obj)}{σ:St}{H:Hp}{s:Shared}{R:It->Hp->Prop}{E:Value->Shared->Prop}{lo hi:Int}{t u v:Tok}{tk:Nat} (I:Inv X pins σ H s) (h1 : -(2 ^ 62)<=lo) (h2:lo < 2 ^ 62) (h3 : -(2 ^ 62)<=hi) (h4:hi < 2 ^ 62)
  (q:R (Itr lo (hi - lo).toNat) H):wpAny (model X.prog X.w) X.A (pyIter (.ref s.heap.objs.size)) (PIE X pins σ tg R) E { s with heap:=s.heap.push { cls:=.type "range", data:=.fields #[.int lo t,.int hi u,.int 1 v] },toks:=tk }:=by
 refine wpAny_pyIter_range (IsRange.new ..) (small_one h1 h2 h3 h4) ?_
 have I1:Inv X pins σ H { s with heap:=s.heap.push { cls:=.type "range", data:=.fields #[.int lo t,.int hi u,.int 1 v] },toks:=tk }:=I.kept λb o e=>zH0 _ e
 refine⟨(s.heap.push { cls:=.type "range", data:=.fields #[.int lo t,.int hi u,.int 1 v] }).objs.size,[(s.heap.push { cls:=.type "range", data:=.fields #[.int lo t,.int hi u,.int 1 v] }).objs.size],_,_,H,rfl,
  I1.kept (t':=tk) λb o e=>zH0 _ e,oj _ lo (hi - lo).toNat,?_,λb hb=>?_,q⟩
 ·have e1:lo+((0:Nat):Int) * 1=lo:=by simp
  have e2:(((hi - lo).toNat:Nat):Int) - ((0:Nat):Int)=Builtin.Range.rangeSize lo hi 1:=by rw [rangeSize_one];split <;> omega
  show IsRangeIter _ _ (lo+((0:Nat):Int) * 1) ((((hi - lo).toNat:Nat):Int) - ((0:Nat):Int)) 1
  rw [e1,e2]
  exact Heap.get?_push_size _ rfl
 ·have e:b=(s.heap.push { cls:=.type "range", data:=.fields #[.int lo t,.int hi u,.int 1 v] }).objs.size:=by simpa using hb
  subst e
  exact I1.fpOk (Nat.le_refl _) (I1.hok.fresh (Nat.le_refl _))
noncomputable def AI (ta:TA):TI:=λσ H R=>ta σ H λvs H1=>∃j:Int,vs=[.int j]/\-(2 ^ 62)<=j/\j < 2 ^ 62/\R (Itr 0 j.toNat) H1
theorem cG {a:Expr}{ta:TA}{p pos:Pos} (hg:Gl X "range") (hm:X.mg "range" = none) (ha:PA X [a] ta) (hs:starEach [a] X.env=[(false,eval a X.env)]:=by rfl):PI X tg (.Call (.Name "range" p) [a] [] pos) (AI ta):=by
 intro pins s σ H R I h
 refine Call_ (iy I hg hm boot_range (PyProof.Rows.callWith_type1 (thn (ha pos pins s σ H _ I h) λus s1 ⟨vs,H1,I1,r1,q1⟩=>?_) hs rfl))
 obtain⟨j,e,q1,q2,q⟩:=q1
 subst e
 cases r1 with
 | cons r rr=>
  cases rr
  obtain⟨t,rfl⟩:=r
  exact call_range_1 (uj I1 ‹1› ‹1› q1 q2 (by simpa using q))
noncomputable def B0 (wi:TI) (g:TG) (tb:TS):TS:=λD σ H=>wi σ H λJ H1=>∃W:Nat->Nat->St->Hp->Prop,(∃m,W 0 m σ H1)/\∀i m σ H,W i m σ H->
 (J.stop i H/\D.nx σ H)\/(J.go i H/\∃N:St->Hp->Prop,(∀σ' H',N σ' H'->∃m',m' < m/\W (i+1) m' σ' H')/\∀x H',J.yld i H x H'->g x σ H' λσ2 H2=>tb { D with nx:=N,ct:=N,bk:=D.nx } σ2 H2)
noncomputable def jy (fp:List Addr) (h:Heap):List (Addr × Obj):=fp.filterMap λb=>(h.get? b).map λo=>(b,o)
theorem fb {fp:List Addr}{h:Heap}{b:Addr}{o:Obj} (hb:b∈fp) (e:h.get? b=some o):(b,o)∈jy fp h:=List.mem_filterMap.mpr ⟨b,hb,by rw [e];rfl⟩
theorem rZ {fp:List Addr}{h:Heap}{p:Addr × Obj} (hp:p∈jy fp h):p.1∈fp/\h.get? p.1=some p.2:=by
 obtain⟨b,hb,e⟩:=List.mem_filterMap.mp hp
 cases q:h.get? b with
 | none=>rw [q]at e;cases e
 | some o=>
  rw [q]at e
  have e':(b,o)=p:=Option.some.inj e
  subst e'
  exact⟨hb,q⟩
theorem Inv.pinned {pins:List (Addr × Obj)}{σ:St}{H:Hp}{s:Shared}{fp:List Addr} (I:Inv X pins σ H s) (hf:∀b∈fp,gN X pins H b) (ho:∀b∈fp,∃o,s.heap.get? b=some o/\∀v,o.data≠.cell v):Inv X (pins++jy fp s.heap) σ H s:=
 I.pins_of λp hp=>(List.mem_append.mp hp).elim (λz=>I.pin p (List.mem_append_right _ z)) λz=>by
  obtain⟨hb,e⟩:=rZ z
  obtain⟨f0,f1,f2,_⟩:=hf p.1 hb
  obtain⟨o,e',d⟩:=ho p.1 hb
  rw [e]at e';cases e'
  exact⟨e,f0,f1,f2,d⟩
theorem Inv.unpinned {pins pl:List (Addr × Obj)}{σ:St}{H:Hp}{s:Shared} (I:Inv X (pins++pl) σ H s):Inv X pins σ H s:=I.pins_of λp hp=>I.pin p (List.mem_append_right _ (List.mem_append_left _ hp))
theorem bP {iter:Expr}{body:List Stmt}{wi:TI}{g:TG}{tb:TS}{pos:Pos} (hp:PassesOwn (model X.prog X.w) X.A X.env X.xe) (hc:X.calm=true) (hi:PI X tg iter wi) (hg:PG X tg g) (hb:PSs X body tb)
  (hs:∀x,foldedSetIterable iter X.env x=pure x:=by intro _;rfl):PS X (.For tg iter body [] pos) (B0 wi g tb):=by
 intro pins s σ H D I h
 refine wpAny_For (thn (hi pins s σ H _ I h) λv s1 h1=>thn h1 λitv s2 h2=>?_) hs
 obtain⟨it,fp,tn,J,H2,e,I2,T,st2,f2,W,⟨m0,w0⟩,turn⟩:=h2
 subst e
 have stat:∀{H':Hp},(∀b∈fp,H' b=none)->∀b∈fp,gN X pins H' b:=λhn b hb=>⟨hn b hb,(f2 b hb).2⟩
 refine codeAny_forLoop_any (λn s'=>∃i σ' H',Inv X pins σ' H' s'/\tn i s'.heap/\(∀b∈fp,H' b=none)/\W i n σ' H') ?_ m0 ⟨0,σ,H2,I2,st2,λb hb=>(f2 b hb).1,w0⟩
 rintro n s3 ⟨i,σ3,H3,I3,st3,fr3,w3⟩
 rcases turn i n σ3 H3 w3 with⟨stop,qn⟩ | ⟨go,N,hN,step⟩
 ·refine wpAny_passesOwn hp (thn (T.done X rfl rfl rfl hc i pins s3 σ3 H3 X.xe I3 (stat fr3) st3 stop) λr s4 ⟨hr,I4⟩=>?_)
  subst hr
  exact wpAny_execs_nil ⟨σ3,H3,I4,qn⟩
 ·refine wpAny_passesOwn hp (thn (T.item X rfl rfl rfl hc i pins s3 σ3 H3 X.xe I3 (stat fr3) st3 go) λr s4 ⟨u,hr,h4⟩=>?_)
  subst hr
  refine wpAny_passesOwn hp (thn h4 λ_ s5 ⟨x,H5,I5,r5,y5,st5,fr5⟩=>?_)
  have I5':=I5.pinned (stat fr5) (T.obj _ _ st5)
  refine wpAny_passesOwn hp (thn (hg _ s5 σ3 H5 x u _ I5' r5 (step x H5 y5)) λ_ s6 ⟨σ6,H6,I6,q6⟩=>?_)
  refine wpAny_passesOwn hp (thn (hb _ s6 σ6 H6 _ I6 q6) λf s7 q7=>?_)
  have again:∀{σ7:St}{H7:Hp},Inv X (pins++jy fp s5.heap) σ7 H7 s7->N σ7 H7->∃m,m < n/\∃i σ' H',Inv X pins σ' H' s7/\tn i s7.heap/\(∀b∈fp,H' b=none)/\W i m σ' H':=λ{σ7 H7} I7 n7=>by
   obtain⟨m',hm,w7⟩:=hN σ7 H7 n7
   refine⟨m',hm,i+1,σ7,H7,I7.unpinned,T.keep _ _ _ st5 λb hb o e=>(I7.pin (b,o) (List.mem_append_right _ (List.mem_append_right _ (fb hb e)))).1,λb hb=>?_,w7⟩
   obtain⟨o,e,d⟩:=T.obj _ _ st5 b hb
   exact(I7.pin (b,o) (List.mem_append_right _ (List.mem_append_right _ (fb hb e)))).2.1
  cases f with
  | next=>obtain⟨σ7,H7,I7,n7⟩:=q7;exact again I7 n7
  | cont=>obtain⟨σ7,H7,I7,n7⟩:=q7;exact again I7 n7
  | brk=>obtain⟨σ7,H7,I7,q7⟩:=q7;exact⟨σ7,H7,I7.unpinned,q7⟩
  | ret v=>obtain⟨x7,σ7,H7,I7,r7,q7⟩:=q7;exact⟨x7,σ7,H7,I7.unpinned,r7,q7⟩
end
theorem bO {K:W.Frag}{a:Addr}{xs:List V}{g:TG}{tb:TS}{D:Ends}{σ:St}{H:Hp} (Pv:Nat->St->Hp->Prop) (h0:Pv 0 σ H) (hl:∀i σ H,i<=xs.length->Pv i σ H->SqL K H a xs)
  (hs:∀i x σ H,xs[i]?=some x->Pv i σ H->g x σ H λσ2 H2=>tb { D with nx:=Pv (i+1),ct:=Pv (i+1),bk:=D.nx } σ2 H2) (hd:∀σ H,Pv xs.length σ H->D.nx σ H) :
  ∃W:Nat->Nat->St->Hp->Prop,(∃m,W 0 m σ H)/\∀i m σ H,W i m σ H->
   ((Itl K a).stop i H/\D.nx σ H)\/((Itl K a).go i H/\∃N:St->Hp->Prop,(∀σ' H',N σ' H'->∃m',m' < m/\W (i+1) m' σ' H')/\∀x H',(Itl K a).yld i H x H'->g x σ H' λσ2 H2=>tb { D with nx:=N,ct:=N,bk:=D.nx } σ2 H2):=by
 refine⟨λi m σ H=>m=xs.length - i/\i<=xs.length/\Pv i σ H,⟨xs.length,by simp,Nat.zero_le _,h0⟩,?_⟩
 rintro i m σ H ⟨rfl,hi,p⟩
 have q:=hl i σ H hi p
 by_cases hlt:i < xs.length
 ·refine .inr ⟨⟨xs,xs[i],q,by simp [hlt]⟩,Pv (i+1),λσ' H' p'=>⟨xs.length - (i+1),by omega,rfl,hlt,p'⟩,λx H' y=>?_⟩
  obtain⟨e,y⟩:=y
  subst e
  exact hs i x σ _ (y xs q) p
 ·have e:i=xs.length:=by omega
  subst e
  exact .inl ⟨⟨xs,q,Nat.le_refl _⟩,hd σ H p⟩
theorem xA {K:W.Frag}{a:Addr}{xs:List V}{g:TG}{tb:TS}{D:Ends}{σ:St}{H:Hp} (Pv:Nat->St->Hp->Prop) (h0:Pv 0 σ H) (hl:∀i σ H,i<=xs.length->Pv i σ H->SqT K H a xs)
  (hs:∀i x σ H,xs[i]?=some x->Pv i σ H->g x σ H λσ2 H2=>tb { D with nx:=Pv (i+1),ct:=Pv (i+1),bk:=D.nx } σ2 H2) (hd:∀σ H,Pv xs.length σ H->D.nx σ H) :
  ∃W:Nat->Nat->St->Hp->Prop,(∃m,W 0 m σ H)/\∀i m σ H,W i m σ H->
   ((Itt K a).stop i H/\D.nx σ H)\/((Itt K a).go i H/\∃N:St->Hp->Prop,(∀σ' H',N σ' H'->∃m',m' < m/\W (i+1) m' σ' H')/\∀x H',(Itt K a).yld i H x H'->g x σ H' λσ2 H2=>tb { D with nx:=N,ct:=N,bk:=D.nx } σ2 H2):=by
 refine⟨λi m σ H=>m=xs.length - i/\i<=xs.length/\Pv i σ H,⟨xs.length,by simp,Nat.zero_le _,h0⟩,?_⟩
 rintro i m σ H ⟨rfl,hi,p⟩
 have q:=hl i σ H hi p
 by_cases hlt:i < xs.length
 ·refine .inr ⟨⟨xs,xs[i],q,by simp [hlt]⟩,Pv (i+1),λσ' H' p'=>⟨xs.length - (i+1),by omega,rfl,hlt,p'⟩,λx H' y=>?_⟩
  obtain⟨e,y⟩:=y
  subst e
  exact hs i x σ _ (y xs q) p
 ·have e:i=xs.length:=by omega
  subst e
  exact .inl ⟨⟨xs,q,Nat.le_refl _⟩,hd σ H p⟩
theorem iA {lo:Int}{n:Nat}{g:TG}{tb:TS}{D:Ends}{σ:St}{H:Hp} (Pv:Nat->St->Hp->Prop) (h0:Pv 0 σ H)
  (hs:∀i σ H,i < n->Pv i σ H->g (.int (lo+i)) σ H λσ2 H2=>tb { D with nx:=Pv (i+1),ct:=Pv (i+1),bk:=D.nx } σ2 H2) (hd:∀σ H,Pv n σ H->D.nx σ H) :
  ∃W:Nat->Nat->St->Hp->Prop,(∃m,W 0 m σ H)/\∀i m σ H,W i m σ H->
   ((Itr lo n).stop i H/\D.nx σ H)\/((Itr lo n).go i H/\∃N:St->Hp->Prop,(∀σ' H',N σ' H'->∃m',m' < m/\W (i+1) m' σ' H')/\∀x H',(Itr lo n).yld i H x H'->g x σ H' λσ2 H2=>tb { D with nx:=N,ct:=N,bk:=D.nx } σ2 H2):=by
 refine⟨λi m σ H=>m=n - i/\i<=n/\Pv i σ H,⟨n,by simp,Nat.zero_le _,h0⟩,?_⟩
 rintro i m σ H ⟨rfl,hi,p⟩
 by_cases hlt:i < n
 ·refine .inr ⟨hlt,Pv (i+1),λσ' H' p'=>⟨n - (i+1),by omega,rfl,hlt,p'⟩,λx H' y=>?_⟩
  obtain⟨e,y⟩:=y
  subst e y
  exact hs i σ _ hlt p
 ·have e:i=n:=by omega
  subst e
  exact .inl ⟨Nat.le_refl _,hd σ H p⟩
noncomputable abbrev R2:=V->V->Hp->VK->Prop
def OpR (X:Cx) (f:Value->Value->Sem Value) (r:R2):Prop:=
 ∀(pins:List (Addr × Obj)) (s:Shared) (σ:St) (H:Hp) (x y:V) (v u:Value) (Q:VK),Inv X pins σ H s->aP x v->aP y u->r x y H Q->
  wpAny (model X.prog X.w) X.A (f v u) (EP X pins σ Q) X.xe s
def UnR (X:Cx) (f:Value->Sem Value) (r:V->Hp->VK->Prop):Prop:=
 ∀(pins:List (Addr × Obj)) (s:Shared) (σ:St) (H:Hp) (x:V) (v:Value) (Q:VK),Inv X pins σ H s->aP x v->r x H Q->
  wpAny (model X.prog X.w) X.A (f v) (EP X pins σ Q) X.xe s
def eF (X:Cx) (f:Value) (r:List V->Hp->VK->Prop):Prop:=
 ∀(pins:List (Addr × Obj)) (s:Shared) (σ:St) (H:Hp) (xs:List V) (us:List Value) (Q:VK),Inv X pins σ H s->aJ xs us->r xs H Q->
  wpAny (model X.prog X.w) X.A (call f us) (EP X pins σ Q) X.xe s
def Bf (X:Cx) (r:V->Hp->(Bool->Hp->Prop)->Prop):Prop:=
 ∀(pins:List (Addr × Obj)) (s:Shared) (σ:St) (H:Hp) (x:V) (v:Value) (Q:Bool->Hp->Prop),Inv X pins σ H s->aP x v->r x H Q->
  wpAny (model X.prog X.w) X.A (truthy v) (TP X pins σ Q) X.xe s
noncomputable def tOp (r:R2) (ta tb:TE):TE:=λσ H Q=>ta σ H λx H1=>tb σ H1 λy H2=>r x y H2 Q
noncomputable def tUn (r:V->Hp->VK->Prop) (ta:TE):TE:=λσ H Q=>ta σ H λx H1=>r x H1 Q
inductive rI (C:Int->Int->Prop) (g:Int->Int->V) (x:V) (y:V) (H:Hp) (Q:VK):Prop
 | mk (i j) (h1:x=.int i) (h2:y=.int j) (h3:C i j) (h4:Q (g i j) H):rI C g x y H Q
inductive rI0 (g:Int->Int->V) (x:V) (y:V) (H:Hp) (Q:VK):Prop
 | mk (i j) (h1:x=.int i) (h2:y=.int j) (h3:Q (g i j) H):rI0 g x y H Q
noncomputable def rU (g:Int->V):V->Hp->VK->Prop:=λx H Q=>∃i,x=.int i/\Q (g i) H
section
variable {X:Cx}{a b c:Expr}{ta tb tc:TE}{pos:Pos}
theorem zM (ha:PE X a ta) (hb:PE X b tb){pins:List (Addr × Obj)}{s:Shared}{σ:St}{H:Hp}{R:V->V->Hp->Prop} (I:Inv X pins σ H s)
  (h:ta σ H λx H1=>tb σ H1 λy H2=>R x y H2){Q:Value->Shared->Prop}{f:Value->Value->Sem Value}
  (hf:∀v u s2 x y H2,Inv X pins σ H2 s2->aP x v->aP y u->R x y H2->wpAny (model X.prog X.w) X.A (f v u) Q X.xe s2) :
  wpAny (model X.prog X.w) X.A (eval a X.env) (λv s₁=>wpAny (model X.prog X.w) X.A (eval b X.env) (λu s₂=>wpAny (model X.prog X.w) X.A (f v u) Q X.xe s₂) X.xe s₁) X.xe s:=by
 refine thn (ha pins s σ H _ I h) λv s1 ⟨x,H1,I1,r1,q1⟩=>?_
 refine thn (hb pins s1 σ H1 _ I1 q1) λu s2 ⟨y,H2,I2,r2,q2⟩=>?_
 exact hf v u s2 x y H2 I2 r1 r2 q2
theorem aE {op:Operator}{r:R2} (ho:OpR X (binaryOp op) r) (ha:PE X a ta) (hb:PE X b tb):PE X (.BinOp a op b pos) (tOp r ta tb):=by
 intro pins s σ H Q I h
 exact wpAny_BinOp (zM ha hb I h λv u s2 x y H2 I2 rx ry q=>ho pins s2 σ H2 x y v u Q I2 rx ry q)
theorem eE {op:UnaryOp}{r:V->Hp->VK->Prop} (ho:UnR X (unaryOp op) r) (ha:PE X a ta):PE X (.UnaryOp op a pos) (tUn r ta):=by
 intro pins s σ H Q I h
 exact UnaryOp_ (thn (ha pins s σ H _ I h) λv s1 ⟨x,H1,I1,r1,q1⟩=>ho pins s1 σ H1 x v Q I1 r1 q1)
theorem opI {f:Value->Value->Sem Value}{C:Int->Int->Prop}{g:Int->Int->Int}
  (rule:∀(i j:Int) (t u:Tok) (s:Shared) (Q:Value->Shared->Prop) (E:Value->Shared->Prop),C i j->Q (.int (g i j) s.toks) { s with toks:=s.toks+1 }->wpAny (model X.prog X.w) X.A (f (.int i t) (.int j u)) Q E s) :
  OpR X f (rI C λi j=>.int (g i j)):=by
 intro pins s σ H x y v u Q I rx ry h
 obtain⟨i,j,rfl,rfl,hc,q⟩:=h
 obtain⟨t,rfl⟩:=rx
 obtain⟨t',rfl⟩:=ry
 exact rule i j t t' s _ _ hc ⟨.int (g i j),H,I.tok _,⟨_,rfl⟩,q⟩
theorem AC {f:Value->Value->Sem Value}{g:Int->Int->Int}
  (rule:∀(i j:Int) (t u:Tok) (s:Shared) (Q:Value->Shared->Prop) (E:Value->Shared->Prop),Q (.int (g i j) s.toks) { s with toks:=s.toks+1 }->wpAny (model X.prog X.w) X.A (f (.int i t) (.int j u)) Q E s) :
  OpR X f (rI0 λi j=>.int (g i j)):=by
 intro pins s σ H x y v u Q I rx ry h
 obtain⟨i,j,rfl,rfl,q⟩:=h
 obtain⟨t,rfl⟩:=rx
 obtain⟨t',rfl⟩:=ry
 exact rule i j t t' s _ _ ⟨.int (g i j),H,I.tok _,⟨_,rfl⟩,q⟩
theorem wU {f:Value->Value->Sem Value}{g:Int->Int->Bool}
  (rule:∀(i j:Int) (t u:Tok) (s:Shared) (Q:Value->Shared->Prop) (E:Value->Shared->Prop),Q (.bool (g i j)) s->wpAny (model X.prog X.w) X.A (f (.int i t) (.int j u)) Q E s) :
  OpR X f (rI0 λi j=>.bl (g i j)):=by
 intro pins s σ H x y v u Q I rx ry h
 obtain⟨i,j,rfl,rfl,q⟩:=h
 obtain⟨t,rfl⟩:=rx
 obtain⟨t',rfl⟩:=ry
 exact rule i j t t' s _ _ ⟨.bl (g i j),H,I,rfl,q⟩
def Bh (i j:Int):Prop:=0 < j/\j < 1073741824
def vU (i j:Int):Prop:=0<=j/\j<=1000000/\i.natAbs < 2 ^ 64
def zQ (i j:Int):Prop:=(-(2 ^ 64) < i/\i < 2 ^ 64)\/(-(2 ^ 64) < j/\j < 2 ^ 64)
theorem zQ.ok {i j:Int} (h:zQ i j):IntMulOk i j:=by
 rcases h with⟨h1,h2⟩ | ⟨h1,h2⟩
 ·exact .of_left (intBits_le_64 h1 h2)
 ·exact .of_right (intBits_le_64 h1 h2)
theorem oh (k:Nat):(0:Int)<=2 ^ k:=by
 rw [two_pow_cast]
 exact Int.natCast_nonneg _
theorem bB:OpR X (binaryOp .Add) (rI0 λi j=>.int (i+j)):=AC λ_ _ _ _ _ _ _ q=>add_int q
theorem eY:OpR X (binaryOp .Sub) (rI0 λi j=>.int (i - j)):=AC λ_ _ _ _ _ _ _ q=>sub_int q
theorem eK:OpR X (binaryOp .Mult) (rI zQ λi j=>.int (i * j)):=opI λ_ _ _ _ _ _ _ hc q=>mul_int q hc.ok
theorem wT:OpR X (binaryOp .FloorDiv) (rI Bh λi j=>.int (i / j)):=opI λi j _ _ _ _ _ hc q=>by
 have h1:(0:Int) < j:=hc.1
 have h2:j < 1073741824:=hc.2
 exact floordiv_int ‹1› (by rw [Int.fdiv_eq_ediv_of_nonneg i ‹1›];exact q) (.inl (PyProof.noPylong_small ‹1›))
theorem dS:OpR X (binaryOp .Mod) (rI (λ_ j=>0 < j) λi j=>.int (i % j)):=opI λi j _ _ _ _ _ hc q=>by
 have h1:(0:Int) < j:=hc
 exact mod_int' ‹1› (by rw [Int.fmod_eq_emod_of_nonneg i ‹1›];exact q)
theorem fL:OpR X (binaryOp .Pow) (rI vU λi j=>.int (i ^ j.toNat)):=opI λ_ _ _ _ _ _ _ hc q=>pow_int_small hc.1 hc.2.1 hc.2.2 q
theorem uF:OpR X (binaryOp .RShift) (rI (λ_ j=>0<=j) λi j=>.int (i / 2 ^ j.toNat)):=opI λi j _ _ _ _ _ hc q=>
 rshift_int hc (by rw [Int.fdiv_eq_ediv_of_nonneg i (oh _)];exact q)
theorem unI {f:Value->Sem Value}{g:Int->Int}
  (rule:∀(i:Int) (t:Tok) (s:Shared) (Q:Value->Shared->Prop) (E:Value->Shared->Prop),Q (.int (g i) s.toks) { s with toks:=s.toks+1 }->wpAny (model X.prog X.w) X.A (f (.int i t)) Q E s) :
  UnR X f (rU λi=>.int (g i)):=by
 intro pins s σ H x v Q I rx h
 obtain⟨i,rfl,q⟩:=h
 obtain⟨t,rfl⟩:=rx
 exact rule i t s _ _ ⟨.int (g i),H,I.tok _,⟨_,rfl⟩,q⟩
theorem cM:UnR X (unaryOp .USub) (rU λi=>.int (-i)):=unI λ_ _ _ _ _ q=>neg_int q
end
noncomputable def yr:V->V->Bool
 | .non,.non=>true | .non,.int _=>true | .int _,.non=>true | .non,.bl _=>true | .bl _,.non=>true | .non,.str _=>true | .str _,.non=>true
 | .int _,.int _=>true | .bl _,.bl _=>true | .str _,.str _=>true | .byt _,.byt _=>true
 | .int _,.str _=>true | .str _,.int _=>true | .bl _,.str _=>true | .str _,.bl _=>true
 | _,_=>false
noncomputable def rEq:R2:=λx y H Q=>yr x y=true/\Q (.bl (decide (x=y))) H
noncomputable def rNe:R2:=λx y H Q=>yr x y=true/\Q (.bl (!decide (x=y))) H
theorem qK {i j:Int}:decide (V.int i=V.int j)=(i == j):=by
 rw [Bool.eq_iff_iff]
 simp
theorem vJ {i j:Bool}:decide (V.bl i=V.bl j)=(i == j):=by
 rw [Bool.eq_iff_iff]
 simp
theorem qJ {i j:Str}:decide (V.str i=V.str j)=(i == j):=by
 rw [Bool.eq_iff_iff]
 simp
theorem qL {i j:Array UInt8}:decide (V.byt i=V.byt j)=(i.toList == j.toList):=by
 rw [Bool.eq_iff_iff]
 cases i
 cases j
 simp
section
variable {X:Cx}{a b c:Expr}{ta tb tc:TE}{pos:Pos}
theorem bj {pins:List (Addr × Obj)}{σ:St}{H:Hp}{s:Shared}{Q:VK}{k k':Bool} (I:Inv X pins σ H s) (q:Q (.bl k) H) (e:k=k'):EP X pins σ Q (.bool k') s:=by
 subst e
 exact⟨.bl k,H,I,rfl,q⟩
theorem dB:OpR X (compareOp .Eq) rEq:=by
 intro pins s σ H x y v u Q I rx ry h
 obtain⟨hs,q⟩:=h
 cases x with
 | non=>
  cases rx
  cases y with
  | non=>cases ry;exact PySem.EqNone.eq_none_none (bj I q (by simp))
  | bl j=>cases ry;exact PySem.EqNone.eq_none_bool (bj I q (by simp))
  | int j=>obtain⟨t',rfl⟩:=ry;exact PySem.EqNone.eq_none_int (bj I q (by simp))
  | str j=>obtain⟨t',rfl⟩:=ry;exact PySem.EqNone.eq_none_str (bj I q (by simp))
  | _=>exact absurd (show false=true from hs) Bool.false_ne_true
 | bl i=>
  cases rx
  cases y with
  | non=>cases ry;exact PySem.EqNone.eq_bool_none (bj I q (by simp))
  | bl j=>cases ry;exact eq_bool (bj I q vJ)
  | str j=>obtain⟨t',rfl⟩:=ry;exact PySem.EqMixed.eq_bool_str (bj I q (by simp))
  | _=>exact absurd (show false=true from hs) Bool.false_ne_true
 | int i=>
  obtain⟨t,rfl⟩:=rx
  cases y with
  | non=>cases ry;exact PySem.EqNone.eq_int_none (bj I q (by simp))
  | int j=>obtain⟨t',rfl⟩:=ry;exact eq_int (bj I q qK)
  | str j=>obtain⟨t',rfl⟩:=ry;exact PySem.EqMixed.eq_int_str (bj I q (by simp))
  | _=>exact absurd (show false=true from hs) Bool.false_ne_true
 | str i=>
  obtain⟨t,rfl⟩:=rx
  cases y with
  | non=>cases ry;exact PySem.EqNone.eq_str_none (bj I q (by simp))
  | bl j=>cases ry;exact PySem.EqMixed.eq_str_bool (bj I q (by simp))
  | int j=>obtain⟨t',rfl⟩:=ry;exact PySem.EqMixed.eq_str_int (bj I q (by simp))
  | str j=>obtain⟨t',rfl⟩:=ry;exact eq_str (bj I q qJ)
  | _=>exact absurd (show false=true from hs) Bool.false_ne_true
 | byt i=>
  obtain⟨t,rfl⟩:=rx
  cases y with
  | byt j=>obtain⟨t',rfl⟩:=ry;exact PySem.W.eq_bytes (bj I q qL)
  | _=>exact absurd (show false=true from hs) Bool.false_ne_true
 | _=>cases y <;> exact absurd (show false=true from hs) Bool.false_ne_true
theorem qy:OpR X (compareOp .NotEq) rNe:=by
 intro pins s σ H x y v u Q I rx ry h
 obtain⟨hs,q⟩:=h
 cases x with
 | non=>
  cases rx
  cases y with
  | non=>cases ry;exact PySem.EqNone.ne_none_none (bj I q (by simp))
  | bl j=>cases ry;exact PySem.EqNone.ne_none_bool (bj I q (by simp))
  | int j=>obtain⟨t',rfl⟩:=ry;exact PySem.EqNone.ne_none_int (bj I q (by simp))
  | str j=>obtain⟨t',rfl⟩:=ry;exact PySem.EqNone.ne_none_str (bj I q (by simp))
  | _=>exact absurd (show false=true from hs) Bool.false_ne_true
 | bl i=>
  cases rx
  cases y with
  | non=>cases ry;exact PySem.EqNone.ne_bool_none (bj I q (by simp))
  | bl j=>cases ry;exact ne_bool (bj I q (congrArg not vJ))
  | str j=>obtain⟨t',rfl⟩:=ry;exact PySem.EqMixed.ne_bool_str (bj I q (by simp))
  | _=>exact absurd (show false=true from hs) Bool.false_ne_true
 | int i=>
  obtain⟨t,rfl⟩:=rx
  cases y with
  | non=>cases ry;exact PySem.EqNone.ne_int_none (bj I q (by simp))
  | int j=>obtain⟨t',rfl⟩:=ry;exact ne_int (bj I q (congrArg not qK))
  | str j=>obtain⟨t',rfl⟩:=ry;exact PySem.EqMixed.ne_int_str (bj I q (by simp))
  | _=>exact absurd (show false=true from hs) Bool.false_ne_true
 | str i=>
  obtain⟨t,rfl⟩:=rx
  cases y with
  | non=>cases ry;exact PySem.EqNone.ne_str_none (bj I q (by simp))
  | bl j=>cases ry;exact PySem.EqMixed.ne_str_bool (bj I q (by simp))
  | int j=>obtain⟨t',rfl⟩:=ry;exact PySem.EqMixed.ne_str_int (bj I q (by simp))
  | str j=>obtain⟨t',rfl⟩:=ry;exact ne_str (bj I q (congrArg not qJ))
  | _=>exact absurd (show false=true from hs) Bool.false_ne_true
 | byt i=>
  obtain⟨t,rfl⟩:=rx
  cases y with
  | byt j=>obtain⟨t',rfl⟩:=ry;exact PySem.W.ne_bytes (bj I q (congrArg not qL))
  | _=>exact absurd (show false=true from hs) Bool.false_ne_true
 | _=>cases y <;> exact absurd (show false=true from hs) Bool.false_ne_true
theorem qz:OpR X (compareOp .Lt) (rI0 λi j=>.bl (decide (i < j))):=wU λ_ _ _ _ _ _ _ q=>lt_int q
theorem fi:OpR X (compareOp .LtE) (rI0 λi j=>.bl (decide (i<=j))):=wU λ_ _ _ _ _ _ _ q=>le_int q
theorem uH:OpR X (compareOp .Gt) (rI0 λi j=>.bl (decide (j < i))):=wU λ_ _ _ _ _ _ _ q=>gt_int q
theorem xY:OpR X (compareOp .GtE) (rI0 λi j=>.bl (decide (j<=i))):=wU λ_ _ _ _ _ _ _ q=>ge_int q
theorem rL:OpR X (compareOp .In) (λx y H Q=>∃i j,x=.str i/\y=.str j/\Q (.bl (!(Builtin.Str.occurrences j i 0 j.length 1).isEmpty)) H):=by
 intro pins s σ H x y v u Q I rx ry h
 obtain⟨i,j,rfl,rfl,q⟩:=h
 obtain⟨t,rfl⟩:=rx
 obtain⟨t',rfl⟩:=ry
 exact in_str (bj I q rfl)
theorem aN (b:Expr){op:CmpOp} (h:op≠.In:=by decide) (h2:op≠.NotIn:=by decide):behindInMarks op b=false:=by
 have e1:(op == CmpOp.In)=false:=by cases op <;> first | rfl | exact absurd rfl h
 have e2:(op == CmpOp.NotIn)=false:=by cases op <;> first | rfl | exact absurd rfl h2
 cases b <;> simp [behindInMarks,e1,e2]
theorem cS {op:CmpOp}{r:R2} (ho:OpR X (compareOp op) r) (ha:PE X a ta) (hb:PE X b tb) (hm:behindInMarks op b=false):PE X (.Compare a [op] [b] pos) (tOp r ta tb):=by
 intro pins s σ H Q I h
 exact wpAny_Compare1 (zM ha hb I h λv u s2 x y H2 I2 rx ry q=>ho pins s2 σ H2 x y v u Q I2 rx ry q) hm
inductive ttR (x:V) (H':Hp) (Q:Bool->Hp->Prop):Prop
 | mk (k) (h1:x=.bl k) (h2:Q k H'):ttR x H' Q
noncomputable def mP (t:TE):TT:=λσ H Q=>t σ H λx H'=>ttR x H' Q
theorem aQ {op:CmpOp}{r:R2} (ho:OpR X (compareOp op) r) (ha:PE X a ta) (hb:PE X b tb) (hm:behindInMarks op b=false):PT X (.Compare a [op] [b] pos) (mP (tOp r ta tb)):=by
 intro pins s σ H Q I h
 refine wpAny_isTrue_Compare1 (thn (ha pins s σ H _ I h) λv s1 ⟨x,H1,I1,r1,q1⟩=>thn (hb pins s1 σ H1 _ I1 q1) λu s2 ⟨y,H2,I2,r2,q2⟩=>
  thn (ho pins s2 σ H2 x y v u _ I2 r1 r2 q2) λc s3 ⟨z,H3,I3,r3,k,e,q3⟩=>?_) hm
 subst e
 cases r3
 exact wpAny_truthy_bool ⟨H3,I3,q3⟩
noncomputable def t6 (r r':R2) (ta tb tc:TE):TE:=λσ H Q=>ta σ H λx H1=>tb σ H1 λy H2=>r x y H2 λz H3=>∃k,z=.bl k/\
 (if k=true then tc σ H3 λw' H4=>r' y w' H4 Q else Q (.bl false) H3)
theorem jA {op op':CmpOp}{r r':R2} (ho:OpR X (compareOp op) r) (ho':OpR X (compareOp op') r') (ha:PE X a ta) (hb:PE X b tb) (hc:PE X c tc)
  (hm:lastMarks [op,op'] [b,c]=false:=by with_unfolding_all rfl):PE X (.Compare a [op,op'] [b,c] pos) (t6 r r' ta tb tc):=by
 intro pins s σ H Q I h
 refine Compare_chain (thn (ha pins s σ H _ I h) λv s1 ⟨x,H1,I1,r1,q1⟩=>chain_link (thn (hb pins s1 σ H1 _ I1 q1) λu s2 ⟨y,H2,I2,r2,q2⟩=>
  thn (ho pins s2 σ H2 x y v u _ I2 r1 r2 q2) λd s3 ⟨z,H3,I3,r3,k,e,q3⟩=>?_)) hm
 subst e
 cases r3
 refine wpAny_truthy_bool ?_
 cases k with
 | false=>exact ite_ff ⟨.bl false,H3,I3,rfl,q3⟩
 | true=>exact ite_tt (chain_last (thn (hc pins s3 σ H3 _ I3 q3) λw' s4 ⟨z',H4,I4,r4,q4⟩=>ho' pins s4 σ H4 y z' u w' Q I4 r2 r4 q4))
theorem uq {op op':CmpOp}{r r':R2} (ho:OpR X (compareOp op) r) (ho':OpR X (compareOp op') r') (ha:PE X a ta) (hb:PE X b tb) (hc:PE X c tc)
  (hm:lastMarks [op,op'] [b,c]=false:=by with_unfolding_all rfl):PT X (.Compare a [op,op'] [b,c] pos) (mP (t6 r r' ta tb tc)):=by
 intro pins s σ H Q I h
 refine isTrue_chain (thn (ha pins s σ H _ I h) λv s1 ⟨x,H1,I1,r1,q1⟩=>test_link (thn (hb pins s1 σ H1 _ I1 q1) λu s2 ⟨y,H2,I2,r2,q2⟩=>
  thn (ho pins s2 σ H2 x y v u _ I2 r1 r2 q2) λd s3 ⟨z,H3,I3,r3,k,e,q3⟩=>?_)) hm
 subst e
 cases r3
 refine wpAny_truthy_bool ?_
 cases k with
 | false=>
  obtain⟨k',e',q'⟩:=q3
  cases e'
  exact ite_ff ⟨H3,I3,q'⟩
 | true=>
  refine ite_tt (test_last (thn (hc pins s3 σ H3 _ I3 q3) λw' s4 ⟨z',H4,I4,r4,q4⟩=>thn (ho' pins s4 σ H4 y z' u w' _ I4 r2 r4 q4) λd' s5 ⟨z2,H5,I5,r5,k2,e2,q5⟩=>?_))
  subst e2
  cases r5
  exact wpAny_truthy_bool ⟨H5,I5,q5⟩
def AR (K:PySem.W.Frag) (x:V) (H:Hp) (k:Bool):Prop:=
 match x with
 | .non=>k=false
 | .bl b=>k=b
 | .int i=>k=(i != 0)
 | .str y=>y.length<=sizeLine/\k=((y.length:Int) != 0)
 | .byt y=>y.size<=sizeLine/\k=((y.size:Int) != 0)
 | .ref p=>(∃xs,SqL K H p xs/\k = !xs.isEmpty)\/(∃xs,SqT K H p xs/\k = !xs.isEmpty)\/∃kvs,H p=some (.dK kvs)/\k = !kvs.isEmpty
 | _=>False
theorem pC {κ:Type}{kvs:List (κ × V)}{vs:List (κ × Value)} (r:KV kvs vs):(!vs.isEmpty) = !kvs.isEmpty:=by
 cases r <;> rfl
theorem jO {xs:List V}{its:List Value} (r:aJ xs its):(!its.toArray.isEmpty) = !xs.isEmpty:=by
 cases r <;> simp
theorem gH:(sizeLine:Nat) < 2 ^ 63:=by rw [sizeLine_eq];decide
theorem yh:Bf X (λx H Q=>∃k,AR X.K x H k/\Q k H):=by
 intro pins s σ H x v Q I rx h
 obtain⟨k,e,q⟩:=h
 have hl:=gH
 have hs:sizeLine=16777216:=sizeLine_eq
 cases x with
 | non=>
  cases rx
  have e':k=false:=e
  subst e'
  exact truthy_none ⟨H,I,q⟩
 | bl b=>
  cases rx
  have e':k=b:=e
  subst e'
  exact wpAny_truthy_bool ⟨H,I,q⟩
 | int i=>
  obtain⟨t,rfl⟩:=rx
  have e':k=(i != 0):=e
  subst e'
  exact PySem.P.truthy_int ⟨H,I,q⟩
 | str y=>
  obtain⟨t,rfl⟩:=rx
  obtain⟨hy,e'⟩:y.length<=sizeLine/\k=((y.length:Int) != 0):=e
  subst e'
  exact PySem.P.truthy_str ‹1› ⟨H,I.tok _,q⟩
 | byt y=>
  obtain⟨t,rfl⟩:=rx
  obtain⟨hy,e'⟩:y.size<=sizeLine/\k=((y.size:Int) != 0):=e
  subst e'
  exact PySem.W.truthy_bytes ‹1› ⟨H,I.tok _,q⟩
 | ref p=>
  cases rx
  have e':(∃xs,SqL X.K H p xs/\k = !xs.isEmpty)\/(∃xs,SqT X.K H p xs/\k = !xs.isEmpty)\/∃kvs,H p=some (.dK kvs)/\k = !kvs.isEmpty:=e
  rcases e' with⟨xs,hx,e'⟩ | ⟨xs,hx,e'⟩ | ⟨kvs,hx,e'⟩
  ·subst e'
   obtain⟨its,r,pl,hz⟩:=I.list hx
   have hlen:=r.length
   exact wpAny_truthy_list pl.isList (by simp only [List.size_toArray];omega) ⟨H,I.tok _,by rw [jO r];exact q⟩
  ·subst e'
   obtain⟨its,r,pl,hz⟩:=I.tuple hx
   have hlen:=r.length
   exact truthy_tuple pl (by simp only [List.size_toArray];omega) ⟨H,I.tok _,by rw [jO r];exact q⟩
  ·subst e'
   obtain⟨hz,hS,vs,r,m⟩:kvs.length<=sizeLine/\(p == sysModules)=false/\∃vs,KV kvs vs/\s.heap.DictOf (aZ X.prog X.w) p vs:=I.hok p _ hx
   have hlen:kvs.length=vs.length:=Paired.length r
   exact wpAny_truthy_dict hS m ‹1› ⟨H,I.tok _,by rw [pC r];exact q⟩
 | _=>exact(show False from e).elim
theorem nG (ha:PE X a ta) (he:∀whole,isTrue a X.env whole=(do let v <- whole;standAt a.pos;holding [v] (truthy v))) :
  PT X a (λσ H Q=>ta σ H λx H'=>∃k,AR X.K x H' k/\Q k H'):=by
 intro pins s σ H Q I h
 exact isTrue_plain (thn (ha pins s σ H _ I h) λv s1 ⟨x,H1,I1,r1,q1⟩=>yh pins s1 σ H1 x v Q I1 r1 q1) (he _)
theorem gE:OpR X (binaryOp .Add) (λx y H Q=>∃i j,x=.str i/\y=.str j/\i.length+j.length<=sizeLine/\Q (.str (i++j)) H):=by
 intro pins s σ H x y v u Q I rx ry h
 obtain⟨i,j,rfl,rfl,hz,q⟩:=h
 obtain⟨t,rfl⟩:=rx
 obtain⟨t',rfl⟩:=ry
 exact add_str (λt' tk=>⟨.str (i++j),H,I.tok _,⟨_,rfl⟩,q⟩) hz
theorem gP {x:V}{us:List Value} (r:aJ [x] us):∃u,us=[u]/\aP x u:=by
 cases r with
 | cons r1 r2=>cases r2;exact⟨_,rfl,r1⟩
theorem pU {x y:V}{us:List Value} (r:aJ [x,y] us):∃u w',us=[u,w']/\aP x u/\aP y w':=by
 cases r with
 | cons r1 r2=>
  cases r2 with
  | cons r3 r4=>cases r4;exact⟨_,_,rfl,r1,r3⟩
theorem lq (hc:X.calm=true):eF X (.builtin "max") (λxs H Q=>∃i j,xs=[.int i,.int j]/\Q (.int (if j > i then j else i)) H):=by
 intro pins s σ H xs us Q I r h
 obtain⟨i,j,rfl,q⟩:=h
 obtain⟨u,w',rfl,⟨t,rfl⟩,⟨t',rfl⟩⟩:=pU r
 refine max_two_ints (I.ok.hd hc) λh' tk k=>⟨_,H,I.kept k,?_,q⟩
 by_cases hj:j > i
 ·rw [if_pos hj,if_pos hj];exact⟨_,rfl⟩
 ·rw [if_neg hj,if_neg hj];exact⟨_,rfl⟩
theorem iE (hc:X.calm=true):eF X (.builtin "min") (λxs H Q=>∃i j,xs=[.int i,.int j]/\Q (.int (if j < i then j else i)) H):=by
 intro pins s σ H xs us Q I r h
 obtain⟨i,j,rfl,q⟩:=h
 obtain⟨u,w',rfl,⟨t,rfl⟩,⟨t',rfl⟩⟩:=pU r
 refine min_two_ints (I.ok.hd hc) λh' tk k=>⟨_,H,I.kept k,?_,q⟩
 by_cases hj:j < i
 ·rw [if_pos hj,if_pos hj];exact⟨_,rfl⟩
 ·rw [if_neg hj,if_neg hj];exact⟨_,rfl⟩
end
structure ObjM (h:Heap) (x dx C:Addr) (mA:Str->Option Value):Prop where
 obj:h.get? x=some (PySem.W.instObj C dx)
 ns:h.Ns1 dx mA
 ne:dx≠x
theorem kW {h:Heap}{dx:Addr}{mA:Str->Option Value} (n:h.Ns1 dx mA):∃od,h.get? dx=some od/\∀name,PySem.W.lookIn name od=some (mA name):=by
 obtain⟨o,es,ep,ho,hd,hk,_,hm⟩:=n
 refine⟨o,ho,λname=>?_⟩
 have e:=hm name
 unfold nsFind findBy at e
 rw [<- Array.find?_toList]at e
 unfold PySem.W.lookIn
 rw [hd]
 dsimp only
 split
 ·rename_i y q
  rw [q]at e
  exact congrArg some e
 ·rename_i q
  rw [q]at e
  have a:es.toList.any (·.refKey)=false:=by
   rw [List.any_eq_false]
   intro y hy
   obtain⟨z,t,hkey⟩:=hk y (Array.mem_toList_iff.mp hy)
   simp [DictEntry.refKey,hkey]
  have a':¬es.toList.any (·.refKey)=true:=by rw [a];exact Bool.false_ne_true
  rw [if_neg a']
  exact congrArg some e
theorem ObjM.look {h:Heap}{x dx C:Addr}{mA:Str->Option Value} (I:ObjM h x dx C mA):∃od,PySem.W.InstAt h x (PySem.W.instObj C dx) C (some od)/\∀name,PySem.W.lookIn name od=some (mA name):=
 let ⟨od,ho,hl⟩:=kW I.ns
 ⟨od,⟨I.obj,rfl,rfl,ho⟩,hl⟩
section
variable {prog:Program}{w:World}{A:Around}{E:Value->Shared->Prop}{s:Shared}{K:W.Frag}{x dx C f:Addr}{mA:Str->Option Value}{name:Str}{v:Value}
theorem xz {expr:Bool}{Q:Value->Shared->Prop} (X:K.In s.heap) (I:ObjM s.heap x dx C mA) (hg:PySem.W.plainGet K C name=true) (hh:PySem.W.hasDictIn K C=true)
  (ha:PySem.W.findIn K (.ref C) name=some none) (hv:mA name=some v) (hv':PySem.W.handedIn v=true) (h:Q v { s with toks:=s.toks+1 }) :
  wpAny (model prog w) A (getAttr (.ref x) name expr) Q E s:=by
 obtain⟨od,J,hl⟩:=I.look
 exact PySem.W.get_value X J (PySem.W.plainGet_of hg).1 (PySem.W.findObj_own hh ha rfl (by rw [hl,hv])) hv' h
theorem vz {pl:Sem Bool}{Q:Value × List Value->Shared->Prop} (X:K.In s.heap) (I:ObjM s.heap x dx C mA) (hg:PySem.W.plainGet K C name=true)
  (hf:PySem.W.findIn K (.ref C) name=some (some (.ref f))) (ht:‹[K,f]›) (hv:mA name=none) (h:Q (.ref f,[.ref x]) s) :
  wpAny (model prog w) A (getMethod (.ref x) name pl) Q E s:=by
 obtain⟨od,J,hl⟩:=I.look
 exact PySem.W.method_fn X J (PySem.W.plainGet_of hg).1 (PySem.W.plainGet_of hg).2 hf (beq_iff_eq.mp ht) (by show (PySem.W.lookIn name od).map (·.isSome)=some false;rw [hl,hv];rfl) h
theorem wo {ns:List Str}{Q:Unit->Shared->Prop} (X:K.In s.heap) (I:ObjM s.heap x dx C mA)
  (hs:PySem.W.findIn K (.ref C) "__setattr__" = some (some (.builtin "object.__setattr__"))) (hp:PySem.W.plainOver K C=true) (ht:PySem.W.takerIn K C name=some none) (hh:PySem.W.hasDictIn K C=true)
  (hw:PySem.Within mA ns) (hsz:ns.length<=sizeLine)
  (h:∀h',ObjM h' x dx C (λy=>if y=name then some v else mA y)->Heap.SameBut dx s.heap h'->Q () { s with heap:=h',toks:=s.toks+2 }) :
  wpAny (model prog w) A (setAttr (.ref x) name v) Q E s:=by
 obtain⟨od,J,hl⟩:=I.look
 refine PySem.W.set_plain X J hs (PySem.W.osa_open (s:={ s with toks:=s.toks+1 }) (r:=none) X J hp ht λb=>?_)
 obtain⟨cd,hc,hd'⟩:=PySem.W.any_some hh
 have hx:s.heap.get? x=some ⟨.ref C,some dx,.plain,#[]⟩:=I.obj
 refine zB0 (zP0 (zB0 (zB0 (wpAny_loadPart hx (zB0 (PySem.W.Looks.here (s:={ s with toks:=s.toks+1 }) (PySem.W.looks_clsIn X hc) ?_))))))
 rw [hd']
 refine zP0 (a:=some dx) (zB0 (zP0 (zB0 ?_)))
 refine wpAny_nsSet1 (s:={ s with toks:=s.toks+1 }) I.ns λh' hn2 hs2=>?_
 obtain⟨oD,esD,epD,hoD,hdD,hcD⟩:=hn2.count (PySem.Within.cons name v hw)
 refine zB0 (wpAny_lookBehind hoD (by rw [hdD];exact pastItsLine_dict (Nat.le_trans hcD (by rw [List.length_cons];omega))) ?_)
 exact zP0 (h _ ⟨(hs2.2 _ (Ne.symm I.ne)).trans I.obj,hn2,I.ne⟩ hs2)
theorem vc {R:Result->Shared->Prop}{vs:List Value}{kw:List (Str × Value)} (X:K.In s.heap) (hm:PySem.W.makesIn K C=true)
  (hi:‹(K,C,f,"__init__")›) (hf:PySem.W.typeIn K (.ref f)=some (.type "function"))
  (h:codeAny (model prog w) (A.under (.builtin "type.__call__" ⟨.ref C::vs,kw⟩)) (.call (.ref f) ⟨.ref (s.heap.objs.size+1)::vs,kw⟩) (PySem.W.InitBack (s.heap.objs.size+1) R)
   { s with heap:=(s.heap.push PySem.W.emptyDict).push (PySem.W.instObj C s.heap.objs.size) }) :
  codeAny (model prog w) A (.call (.ref C) ⟨vs,kw⟩) R s:=by
 obtain⟨hh,g,d,t,os⟩:=s
 exact PySem.W.make_core (PySem.W.makes_of X hm) (PySem.W.looks_findIn X hi) (λself=>PySem.W.bind_fn X self hf) (.inl rfl) h
end
noncomputable def aX (f:Str) (v:V):List (Str × V)->List (Str × V)
 | []=>[(f,v)]
 | (g,x)::r=>if g=f then (g,v)::r else (g,x)::aX f v r
theorem iN (f g:Str) (v:V):∀fs:List (Str × V),(aX f v fs).lookup g=if g=f then some v else fs.lookup g
 | []=>by
  show List.lookup g [(f,v)]=_
  by_cases h:g=f
  ·have hb:(g == f)=true:=beq_iff_eq.mpr h
   simp only [List.lookup,hb,if_pos h]
  ·have hb:(g == f)=false:=beq_eq_false_iff_ne.mpr h
   simp only [List.lookup,hb,if_neg h]
 | (k,x)::r=>by
  have ih:=iN f g v r
  rw [show aX f v ((k,x)::r)=(if k=f then (k,v)::r else (k,x)::aX f v r) from rfl]
  by_cases hk:k=f
  ·rw [if_pos hk]
   by_cases h:g=k
   ·have hb:(g == k)=true:=beq_iff_eq.mpr h
    simp only [List.lookup,hb,if_pos (h.trans hk)]
   ·have hb:(g == k)=false:=beq_eq_false_iff_ne.mpr h
    simp only [List.lookup,hb,if_neg (λe:g=f=>h (e.trans hk.symm))]
  ·rw [if_neg hk]
   by_cases h:g=k
   ·have hb:(g == k)=true:=beq_iff_eq.mpr h
    simp only [List.lookup,hb,if_neg (λe:g=f=>hk (h.symm.trans e))]
   ·have hb:(g == k)=false:=beq_eq_false_iff_ne.mpr h
    simp only [List.lookup,hb]
    exact ih
theorem iz (f:Str) (v:V):∀fs:List (Str × V),f∈(aX f v fs).map (·.1)/\∀g,g∈fs.map (·.1)->g∈(aX f v fs).map (·.1)
 | []=>⟨by simp [aX],λg h=>by simp at h⟩
 | (k,x)::r=>by
  obtain⟨i1,i2⟩:=iz f v r
  rw [show aX f v ((k,x)::r)=(if k=f then (k,v)::r else (k,x)::aX f v r) from rfl]
  by_cases hk:k=f
  ·rw [if_pos hk]
   subst hk
   exact⟨by simp,λg h=>by simpa using h⟩
  ·rw [if_neg hk]
   refine⟨?_,λg h=>?_⟩
   ·rw [List.map_cons]
    exact List.mem_cons_of_mem _ i1
   ·rw [List.map_cons]at h ⊢
    rcases List.mem_cons.mp h with e | e
    ·exact List.mem_cons.mpr (.inl e)
    ·exact List.mem_cons_of_mem _ (i2 g e)
theorem bD (f:Str) (v:V):∀fs:List (Str × V),(aX f v fs).length<=fs.length+1
 | []=>by simp [aX]
 | (k,x)::r=>by
  have ih:=bD f v r
  rw [show aX f v ((k,x)::r)=(if k=f then (k,v)::r else (k,x)::aX f v r) from rfl]
  by_cases hk:k=f
  ·rw [if_pos hk,List.length_cons,List.length_cons];omega
  ·rw [if_neg hk,List.length_cons,List.length_cons];omega
theorem eB.some_of {v:V}{o:Option Value} (r:eB (some v) o):∃u,o=some u/\aP v u:=by
 cases o with
 | none=>exact(show False from r).elim
 | some u=>exact⟨u,rfl,r⟩
theorem eB.none_of {o:Option Value} (r:eB none o):o=none:=by
 cases o with
 | none=>rfl
 | some u=>exact(show False from r).elim
theorem kZ {v:V}{u:Value} (r:aP v u):PySem.W.handedIn u=true:=by
 cases v with
 | non=>cases (show u=Value.none from r);rfl
 | bl b=>cases (show u=Value.bool b from r);rfl
 | int i=>obtain⟨t,e⟩:=(show ∃t,u=Value.int i t from r);cases e;rfl
 | str x=>obtain⟨t,e⟩:=(show ∃t,u=Value.str x t from r);cases e;rfl
 | byt b=>obtain⟨t,e⟩:=(show ∃t,u=Value.bytes b t from r);cases e;rfl
 | flt b=>obtain⟨t,e⟩:=(show ∃t,u=Value.float b t from r);cases e;rfl
 | ref a=>cases (show u=Value.ref a from r);rfl
 | ty n=>cases (show u=Value.type n from r);rfl
section
variable {P:Program}{w:World}{H H':Hp}{h h':Heap}{a C dx:Addr}{fs fs':List (Str × V)}
theorem j8 (hok:HOk P w H h) (e:H a=some (.ins C dx fs)):∃mA,ObjM h a dx C mA/\(∀f,eB (fs.lookup f) (mA f))/\PySem.Within mA (fs.map (·.1))/\fs.length<=1000/\H dx=some (.own a):=by
 obtain⟨d,z,ne,ob,mA,n,r,q⟩:=(show br P w H h a (.ins C dx fs) from hok a _ e)
 exact⟨mA,⟨ob,n,ne⟩,r,q,z,d⟩
end
structure Cls (K:PySem.W.Frag) (C:Addr):Prop where
 pg:PySem.W.plainGet K C Str.empty=true
 hd:PySem.W.hasDictIn K C=true
 po:PySem.W.plainOver K C=true
 sa:PySem.W.findIn K (.ref C) "__setattr__" = some (some (.builtin "object.__setattr__"))
theorem Cls.get {K:W.Frag}{C:Addr} (c:Cls K C) (f:Str):PySem.W.plainGet K C f=true:=c.pg
def NoAttr (K:PySem.W.Frag) (C:Addr) (f:Str):Prop:=PySem.W.findIn K (.ref C) f=some none
theorem NoAttr.taker {K:W.Frag}{C:Addr}{f:Str} (n:NoAttr K C f):PySem.W.takerIn K C f=some none:=by
 unfold PySem.W.takerIn
 rw [show PySem.W.findIn K (.ref C) f=some none from n]
 rfl
structure Meth (K:PySem.W.Frag) (C:Addr) (m:Str) (f:Addr):Prop where
 at_:PySem.W.findIn K (.ref C) m=some (some (.ref f))
 fn:‹[K,f]›
 kp:PySem.W.keepIn K (.ref f)=true
section
variable {X:Cx}{pins:List (Addr × Obj)}{σ:St}{H:Hp}{s:Shared}{a C dx:Addr}{fs:List (Str × V)}{f:Str}{v:V}{A:Around}{E:Value->Shared->Prop}
theorem pD {b:Bool}{Q:Value->Shared->Prop} (I:Inv X pins σ H s) (e:H a=some (.ins C dx fs)) (c:Cls X.K C) (n:NoAttr X.K C f) (l:fs.lookup f=some v)
  (h:∀u s',Inv X pins σ H s'->aP v u->Q u s'):wpAny (model X.prog X.w) A (getAttr (.ref a) f b) Q E s:=by
 obtain⟨mA,O,r,_,_,_⟩:=j8 I.hok e
 obtain⟨u,hu,ru⟩:=eB.some_of (v:=v) (o:=mA f) (by rw [<- l];exact r f)
 exact xz I.kIn O (c.get f) c.hd n hu (kZ ru) (h u _ (I.tok _) ru)
theorem jQ {m:Str}{g:Addr}{pl:Sem Bool}{Q:Value × List Value->Shared->Prop} (I:Inv X pins σ H s) (e:H a=some (.ins C dx fs)) (c:Cls X.K C) (k:Meth X.K C m g) (l:fs.lookup m=none)
  (h:Q (.ref g,[.ref a]) s):wpAny (model X.prog X.w) A (getMethod (.ref a) m pl) Q E s:=by
 obtain⟨mA,O,r,_,_,_⟩:=j8 I.hok e
 have hn:mA m=none:=eB.none_of (by rw [<- l];exact r m)
 exact vz I.kIn O (c.get m) k.at_ k.fn hn h
theorem oE {y:V}{u:Value}{Q:Unit->Shared->Prop} (I:Inv X pins σ H s) (e:H a=some (.ins C dx fs)) (c:Cls X.K C) (n:NoAttr X.K C f) (hl:fs.length < 1000) (ry:aP y u)
  (h:∀s',Inv X pins σ (upd H a (.ins C dx (aX f y fs))) s'->Q () s'):wpAny (model X.prog X.w) A (setAttr (.ref a) f u) Q E s:=by
 obtain⟨mA,O,r,wi,_,ho⟩:=j8 I.hok e
 have hz:(fs.map (·.1)).length<=sizeLine:=by rw [List.length_map,sizeLine_eq];omega
 refine wo I.kIn O c.sa c.po n.taker c.hd wi hz λh' O' sb=>h _ ?_
 have hd:∃o,h'.get? dx=some o:=let ⟨o,_,_,e',_⟩:=O'.ns;⟨o,e'⟩
 refine I.write (x:=a) (e:=dx) (by rw [e];exact True.intro) (.inr ho) (λb q hb z=>(sb.2 b hb).trans z) hd ?_
 refine⟨by rw [ag O.ne];exact ho,?_,O.ne,O'.obj,_,O'.ns,λg=>?_,λg hg=>?_⟩
 ·have:=bD f y fs;omega
 ·show eB ((aX f y fs).lookup g) (if g=f then some u else mA g)
  rw [iN]
  by_cases q:g=f
  ·rw [if_pos q,if_pos q];exact ry
  ·rw [if_neg q,if_neg q];exact r g
 ·by_cases q:g=f
  ·rw [q];exact(iz f y fs).1
  ·refine(iz f y fs).2 g (wi g λz=>hg ?_)
   show (if g=f then some u else mA g)=none
   rw [if_neg q];exact z
theorem Inv.made (I:Inv X pins σ H s):Inv X pins σ (upd (upd H s.heap.objs.size (.own (s.heap.objs.size+1))) (s.heap.objs.size+1) (.ins C s.heap.objs.size []))
  { s with heap:=(s.heap.push PySem.W.emptyDict).push (PySem.W.instObj C s.heap.objs.size) }:=by
 have e1:(s.heap.push PySem.W.emptyDict).get? s.heap.objs.size=some PySem.W.emptyDict:=Heap.get?_push_size s.heap rfl
 have e2:((s.heap.push PySem.W.emptyDict).push (PySem.W.instObj C s.heap.objs.size)).get? (s.heap.objs.size+1)=some (PySem.W.instObj C s.heap.objs.size):=by
  have:=Heap.get?_push_size (s.heap.push PySem.W.emptyDict) (o:=PySem.W.instObj C s.heap.objs.size) rfl
  rwa [Heap.size_push]at this
 have e3:(s.heap.push PySem.W.emptyDict).Ns s.heap.objs.size (λ_=>none):=⟨PySem.W.emptyDict,#[],_,e1,rfl,(λe he=>absurd he (by simp)),λ_=>rfl⟩
 have I1:=I.laid (a:=s.heap.objs.size) (o:=.own (s.heap.objs.size+1)) (h':=s.heap.push PySem.W.emptyDict) (t':=s.toks) (λb u q=>zH0 _ q) (Nat.le_refl _) ⟨_,e1⟩
 refine I1.laid (a:=s.heap.objs.size+1) (o:=.ins C s.heap.objs.size []) (t':=s.toks) (λb u q=>zH0 _ q) (Nat.le_of_eq (Heap.size_push _ _)) ?_
 have ne:s.heap.objs.size≠s.heap.objs.size+1:=Nat.ne_of_lt (Nat.lt_succ_self _)
 refine⟨by rw [ag ne,ae],Nat.zero_le _,ne,e2,λ_=>none,(Heap.Ns1.of_empty e3).at λo q=>zH0 _ q,λ_=>True.intro,λy hy=>absurd rfl hy⟩
theorem qP {prog:Program}{w:World}{env:Env}{e:Expr}{f:Str}{pos:Pos}{s:Shared}{Q:Value->Shared->Prop} (hb:attributeBase e f env (eval e env)=eval e env)
  (h:wpAny (model prog w) A (eval e env) (λo s₁=>wpAny (model prog w) A (getAttr o f true) Q E s₁) E s):wpAny (model prog w) A (eval (.Attribute e f pos) env) Q E s:=
 Attribute_any_ h (by rw [arm_eval_Attribute,hb])
end
inductive AL (K:PySem.W.Frag) (f:Str) (x:V) (H1:Hp) (Q:VK):Prop
 | mk (a C dx fs v) (h1:x=.ref a) (h2:H1 a=some (.ins C dx fs)) (h3:Cls K C) (h4:NoAttr K C f) (h5:fs.lookup f=some v) (h6:Q v H1):AL K f x H1 Q
noncomputable def B1 (K:PySem.W.Frag) (ta:TE) (f:Str):TE:=λσ H Q=>ta σ H λx H1=>AL K f x H1 Q
noncomputable def An (K:PySem.W.Frag) (ta tv:TE) (f:Str):TS:=λD σ H=>tv σ H λy H1=>ta σ H1 λx H2=>∃a C dx fs,x=.ref a/\H2 a=some (.ins C dx fs)/\Cls K C/\NoAttr K C f/\fs.length < 1000/\
 D.nx σ (upd H2 a (.ins C dx (aX f y fs)))
section
variable {X:Cx}{o e value:Expr}{f:Str}{pos pos' tpos:Pos}{ta tv:TE}
theorem bZ (he:PE X e ta) (hb:attributeBase e f X.env (eval e X.env)=eval e X.env):PE X (.Attribute e f pos) (B1 X.K ta f):=by
 intro pins s σ H Q I h
 refine qP hb (thn (he pins s σ H _ I h) λu s1 ⟨x,H1,I1,rx,a,C,dx,fs,v,ex,ea,c,n,l,q⟩=>?_)
 subst ex
 obtain rfl:u=Value.ref a:=rx
 exact pD I1 ea c n l λu' s2 I2 ru=>⟨v,H1,I2,ru,q⟩
theorem jx (ha:PE X o ta) (hv:PE X value tv) (hs:swapsWith value (some (.Attribute o f pos')) pos.line X.env=pure false):PS X (.Assign [.Attribute o f pos'] value pos) (An X.K ta tv f):=by
 intro pins s σ H D I h
 refine plainObj_wpAny_Assign_Attribute (thn (hv pins s σ H _ I h) λu s1 ⟨y,H1,I1,ry,q⟩=>thn (ha pins s1 σ H1 _ I1 q) λov s2 ⟨x,H2,I2,rx,a,C,dx,fs,ex,ea,c,n,l,q2⟩=>?_) hs
 subst ex
 obtain rfl:ov=Value.ref a:=rx
 exact oE I2 ea c n l ry λs3 I3=>⟨σ,_,I3,q2⟩
end
section
variable {X:Cx}{pins:List (Addr × Obj)}{σ:St}{H:Hp}{s:Shared}{A:Around}{E:Value->Shared->Prop}{Q:Value->Shared->Prop}{c:Value}{b:Bool}
inductive TyOf (K:PySem.W.Frag) (H:Hp):V->Value->Prop where
 | non:TyOf K H .non (.type "NoneType")
 | bl (x:Bool):TyOf K H (.bl x) (.type "bool")
 | int (i:Int):TyOf K H (.int i) (.type "int")
 | str (x:Str):TyOf K H (.str x) (.type "str")
 | flt (x:UInt64):TyOf K H (.flt x) (.type "float")
 | lst {a:Addr}{xs:List V} (e:H a=some (.lst xs)):TyOf K H (.ref a) (.type "list")
 | frz {a:Addr}{o:Obj}{xs:List V} (e:H a=some (.frz o (.lst xs))):TyOf K H (.ref a) (.type "list")
 | tup {a:Addr}{xs:List V} (e:H a=some (.tup xs)):TyOf K H (.ref a) (.type "tuple")
 | dK {a:Addr}{kvs:List (Key × V)} (e:H a=some (.dK kvs)):TyOf K H (.ref a) (.type "dict")
 | dT {a:Addr}{kvs:List (List Key × V)} (e:H a=some (.dT kvs)):TyOf K H (.ref a) (.type "dict")
 | ins {a C dx:Addr}{fs:List (Str × V)} (e:H a=some (.ins C dx fs)) (cl:Cls K C) (ha:PySem.W.findIn K (.ref C) "__class__" = some (some (.builtin "object.__class__")))
   (hn:PySem.W.specialIn K (.builtin "object.__class__") "__get__" = some (some (.builtin "getset_descriptor.__get__"))) (htk:PySem.W.takesIn K (.builtin "object.__class__")=some true)
   (hm:PySem.W.mroIn K C (.type "object")=some true):TyOf K H (.ref a) (.ref C)
theorem sq {x:V}{u t:Value} (I:Inv X pins σ H s) (rx:aP x u) (ty:TyOf X.K H x t) (e:PySem.W.kitOne X.K t c=some b) (h:∀tk,Q (.bool b) { s with toks:=tk }) :
  wpAny (model X.prog X.w) A (call (.builtin "isinstance") [u,c]) Q E s:=by
 cases ty with
 | non=>cases (show u=Value.none from rx);exact PySem.W.kia_one PySem.W.kitx_none I.kIn True.intro e (λz=>nomatch z) h
 | bl y=>cases (show u=Value.bool y from rx);exact PySem.W.kia_one PySem.W.kitx_bool I.kIn True.intro e (λz=>nomatch z) h
 | int i=>obtain⟨t,q⟩:=(show ∃t,u=Value.int i t from rx);cases q;exact PySem.W.kia_one PySem.W.kitx_int I.kIn True.intro e (λz=>nomatch z) h
 | str y=>obtain⟨t,q⟩:=(show ∃t,u=Value.str y t from rx);cases q;exact PySem.W.kia_one PySem.W.kitx_str I.kIn True.intro e (λz=>nomatch z) h
 | flt y=>obtain⟨t,q⟩:=(show ∃t,u=Value.float y t from rx);cases q;exact PySem.W.kia_one PySem.W.kitx_float I.kIn True.intro e (λz=>nomatch z) h
 | @lst a xs ea=>
  cases (show u=Value.ref a from rx)
  obtain⟨_,_,n,_,h1⟩:=(show br X.prog X.w H s.heap a (.lst xs) from I.hok a _ ea)
  exact PySem.W.kia_one PySem.W.kitx_list I.kIn ⟨_,h1,rfl⟩ e (λz=>nomatch z) h
 | @frz a ob xs ea=>
  cases (show u=Value.ref a from rx)
  obtain⟨_,_,_,n,_,h1⟩:=(show br X.prog X.w H s.heap a (.frz ob (.lst xs)) from I.hok a _ ea)
  exact PySem.W.kia_one PySem.W.kitx_list I.kIn ⟨_,h1,rfl⟩ e (λz=>nomatch z) h
 | @tup a xs ea=>
  cases (show u=Value.ref a from rx)
  obtain⟨_,_,_,p⟩:=(show br X.prog X.w H s.heap a (.tup xs) from I.hok a _ ea)
  obtain⟨o,h1,h2,_⟩:=p
  exact PySem.W.kia_one PySem.W.kitx_tuple I.kIn ⟨o,h1,h2⟩ e (λz=>nomatch z) h
 | @dK a kvs ea=>
  cases (show u=Value.ref a from rx)
  obtain⟨_,_,vs,_,p⟩:=(show br X.prog X.w H s.heap a (.dK kvs) from I.hok a _ ea)
  obtain⟨o,es,ep,h1,h2,_⟩:=p
  exact PySem.W.kia_one PySem.W.kitx_dict I.kIn ⟨o,h1,h2.1⟩ e (λz=>nomatch z) h
 | @dT a kvs ea=>
  cases (show u=Value.ref a from rx)
  obtain⟨_,_,xs,_,o,es,ep,h1,h2,_⟩:=(show br X.prog X.w H s.heap a (.dT kvs) from I.hok a _ ea)
  exact PySem.W.kia_one PySem.W.kitx_dict I.kIn ⟨o,h1,h2.1⟩ e (λz=>nomatch z) h
 | @ins a C dx fs ea cl ha hn htk hm=>
  cases (show u=Value.ref a from rx)
  obtain⟨mA,O,_⟩:=j8 I.hok ea
  obtain⟨od,J,_⟩:=O.look
  exact PySem.W.kia_one (PySem.W.kitx_own (cl.get _) cl.hd ha hn htk hm) I.kIn J e (λz=>nomatch z) h
end
structure Room (k:Nat) (A:Around):Prop where
 hd:A.handled=none
 dp:A.depth+3 * k+5 < recursionLimit
 un:A.units+16 * k+200 < cLine
 gd:A.guards=some []
theorem Room.mono {j k:Nat}{A:Around} (r:Room k A) (h:j<=k):Room j A:=⟨r.hd,by have:=r.dp;omega,by have:=r.un;omega,r.gd⟩
theorem Room.deeper {k:Nat}{A:Around} (r:Room (k+1) A) (env:Env):Room k (A.deeper env):=
 ⟨r.hd,by have:=r.dp;show A.depth+1+3 * k+5 < _;omega,by have:=r.un;show A.units+3+16 * k+200 < _;omega,r.gd⟩
theorem pq {A:Around}{C:Addr}{us:List Value}{kw:List (Str × Value)}:(A.under (.builtin "type.__call__" ⟨.ref C::us,kw⟩)).depth=A.depth+1:=by
 first | rfl | simp [Around.under,Code.weight,Code.isCreation,Code.isGuard,Code.isCaller,Code.frames,Code.isFrame,guardIds]
theorem pj {A:Around}{C:Addr}{us:List Value}{kw:List (Str × Value)}:(A.under (.builtin "type.__call__" ⟨.ref C::us,kw⟩)).units=A.units+1:=by
 first | rfl | simp [Around.under,Code.cUnits,Code.frames,Code.isFrame]
theorem Room.make {k:Nat}{A:Around} (r:Room (k+1) A) (C:Addr) (us:List Value) (kw:List (Str × Value)):Room k (A.under (.builtin "type.__call__" ⟨.ref C::us,kw⟩)):=
 ⟨r.hd,by have:=r.dp;rw [pq];omega,by have:=r.un;rw [pj];omega,by have h:=r.gd;first | (unfold Around.under;simp [h,pushGuards,Code.guards,Code.isGuard,guardIds]) | (simp [Around.under,h,pushGuards,Code.guards,Code.isGuard,guardIds])⟩
theorem Room.depth {k:Nat}{A:Around} (r:Room k A):A.depth < recursionLimit:=by have:=r.dp;omega
theorem Room.units {k:Nat}{A:Around} (r:Room k A):A.units+64 < cLine:=by have:=r.un;omega
noncomputable def gx:TA:=λ_ H Q=>Q [] H
noncomputable def cW (ta:TE) (tr:TA):TA:=λσ H Q=>ta σ H λx H1=>tr σ H1 λxs H2=>Q (x::xs) H2
section
variable {X:Cx}{e:Expr}{es:List Expr}{te:TE}{t:TA}{pos:Pos}
theorem ad:PA X [] gx:=λ_ _ _ _ H Q I h=>Calls.spliced_nil ⟨[],H,I,.nil,h⟩
theorem aa (ha:PE X e te) (hr:PA X es t) (hs:starEach (e::es) X.env=(false,eval e X.env)::starEach es X.env:=by rfl):PA X (e::es) (cW te t):=by
 intro pos pins s σ H Q I h
 rw [hs]
 show wpAny _ _ (spliced ((false,eval e X.env)::backTo pos (starEach es X.env))) _ _ s
 refine Calls.spliced_cons (thn (ha pins s σ H _ I h) λu s1 ⟨x,H1,I1,r1,q1⟩=>?_)
 exact thn (hr pos pins s1 σ H1 _ I1 q1) λus s2 ⟨xs,H2,I2,r2,q2⟩=>⟨x::xs,H2,I2,.cons r1 r2,q2⟩
noncomputable def yi (t:TA):TE:=λσ H Q=>t σ H λxs H1=>xs.length<=sizeLine/\∀p,H1 p=none->Q (.ref p) (upd H1 p (.tup xs))
noncomputable def t5 (t:TA):TE:=λσ H Q=>t σ H λxs H1=>xs.length<=sizeLine/\∀p,H1 p=none->Q (.ref p) (upd H1 p (.lst xs))
theorem bz {x1} (h:PA X es t):PE X (.Tuple es x1 pos) (yi t):=by
 intro pins s σ H Q I hq
 refine wpAny_Tuple_spliced (thn (h pos pins s σ H _ I hq) λus s1 ⟨xs,H1,I1,r,z,q⟩=>⟨by rw [<- r.length];exact z,?_⟩)
 have hf:H1 s1.heap.objs.size=none:=I1.hok.fresh (Nat.le_refl _)
 refine⟨.ref s1.heap.objs.size,upd H1 s1.heap.objs.size (.tup xs),I1.laid (t':=s1.toks) (λb u e=>zH0 _ e) (Nat.le_refl _) ?_,rfl,q _ hf⟩
 exact⟨z,us,r,⟨_,Heap.get?_push_size _ rfl,rfl,_,rfl⟩⟩
theorem be (h:PA X es t):PE X (.List es pos) (t5 t):=by
 intro pins s σ H Q I hq
 refine wpAny_List_spliced (thn (h pos pins s σ H _ I hq) λus s1 ⟨xs,H1,I1,r,z,q⟩=>⟨by rw [<- r.length];exact z,?_⟩)
 have hf:H1 s1.heap.objs.size=none:=I1.hok.fresh (Nat.le_refl _)
 refine⟨.ref s1.heap.objs.size,upd H1 s1.heap.objs.size (.lst xs),I1.laid (t':=s1.toks) (λb u e=>zH0 _ e) (Nat.le_refl _) ?_,rfl,q _ hf⟩
 exact⟨z,us,0,r,Heap.get?_push_size _ rfl⟩
end
noncomputable abbrev Sp:=List V->Hp->VK->XK->Prop
noncomputable abbrev CXT:=List Env->Hp->Shared->XK->Value->Shared->Prop
structure Env0 (P:Program) (w:World) (K:PySem.W.Frag) (mg:Str->Option Value) (base:Heap) (A:Around) (outer:List Env) (s:Shared) (H:Hp):Prop where
 frames:A.frames=some outer
 mod:Mod K mg base
 bs:∀b o,base.get? b=some o->s.heap.get? b=some o/\H b=none
 bsz:base.objs.size<=s.heap.objs.size
 funs:s.heap.FunFrames base outer
 frf:∀b∈frs outer,H b=none
 hok:HOk P w H s.heap
 bare:AllBare s.gens
def CE (outer:List Env) (P:Program) (w:World) (H:Hp) (s:Shared) (Q:VK) (u:Value) (s':Shared):Prop:=
 ∃v H',s'.os=s.os/\AllBare s'.gens/\Un (frs outer) [] H H' s.heap s'.heap/\HOk P w H' s'.heap/\aP v u/\Q v H'
def CR (CX:CXT) (outer:List Env) (P:Program) (w:World) (H:Hp) (s:Shared) (Q:VK) (E:XK) (r:Result) (s':Shared):Prop:=
 match r with
 | .ok (.ret u)=>CE outer P w H s Q u s'
 | .ok _=>False
 | .error e=>CX outer H s E e s'
structure FnOk (P:Program) (w:World) (K:PySem.W.Frag) (mg:Str->Option Value) (base:Heap) (CX:CXT) (k:Nat) (f:Addr) (fd:FuncData) (ps:List Str) (sp:Sp):Prop where
 len:∀vs H Q E,sp vs H Q E->vs.length=ps.length
 run:∀(A:Around) (outer:List Env) (s:Shared) (H:Hp) (args:Args) (us:List Value) (vs:List V) (Q:VK) (E:XK),Room k A->Env0 P w K mg base A outer s H->BindsTo s fd args (ps.zip us)->aJ vs us->sp vs H Q E->
  codeAny (model P w) A (.call (.ref f) args) (CR CX outer P w H s Q E) s
theorem FnOk.mono {P:Program}{w:World}{K:W.Frag}{mg:Str->Option Value}{base:Heap}{CX:CXT}{j k:Nat}{f:Addr}{fd:FuncData}{ps:List Str}{sp:Sp} (F:FnOk P w K mg base CX j f fd ps sp) (h:j<=k) :
  FnOk P w K mg base CX k f fd ps sp:=⟨F.len,λA outer s H args us vs Q E hr=>F.run A outer s H args us vs Q E (hr.mono h)⟩
theorem FnOk.imp {P:Program}{w:World}{K:W.Frag}{mg:Str->Option Value}{base:Heap}{CX:CXT}{k:Nat}{f:Addr}{fd:FuncData}{ps:List Str}{sp sp':Sp} (F:FnOk P w K mg base CX k f fd ps sp)
  (h:∀vs H Q E,sp' vs H Q E->sp vs H Q E):FnOk P w K mg base CX k f fd ps sp':=
 ⟨λvs H Q E q=>F.len vs H Q E (h _ _ _ _ q),λA outer s H args us vs Q E hr he hb hv hs=>F.run A outer s H args us vs Q E hr he hb hv (h _ _ _ _ hs)⟩
theorem Env0.make {P:Program}{w:World}{K:W.Frag}{mg:Str->Option Value}{base:Heap}{A:Around}{outer:List Env}{s:Shared}{H:Hp} (e:Env0 P w K mg base A outer s H) (C:Addr) (us:List Value) (kw:List (Str × Value)) :
  Env0 P w K mg base (A.under (.builtin "type.__call__" ⟨.ref C::us,kw⟩)) outer s H:=⟨by first | exact e.frames | (simpa [Around.under,Code.envs,Code.isFrame,pushEnvs] using e.frames),e.mod,e.bs,e.bsz,e.funs,e.frf,e.hok,e.bare⟩
section
variable {X:Cx}{pins:List (Addr × Obj)}{σ:St}{H:Hp}{s s':Shared}
theorem Inv.env0 (I:Inv X pins σ H s):Env0 X.prog X.w X.K X.mg X.base X.A X.stack s H:=
 ⟨I.ok.frames,I.ok.mod,I.bs,Nat.le_trans I.ok.bsz I.sz,I.stack,I.stkFree,I.hok,I.bare⟩
theorem Inv.after {Q:VK}{u:Value} (I:Inv X pins σ H s) (h:CE X.stack X.prog X.w H s Q u s'):EP X pins σ Q u s':=by
 obtain⟨v,H',os,bare,un,hok,r,q⟩:=h
 obtain⟨hh,g,d,t,os'⟩:=s'
 obtain rfl:os'=s.os:=os
 exact⟨v,H',I.call (h':=hh) (g':=g) (d':=d) (t':=t) (ch:=[]) un hok bare (λb z=>absurd z (by simp)),r,q⟩
end
noncomputable def pV (sp:Sp) (dvs:List V) (E:XK) (t:TA):TE:=λσ H Q=>t σ H λvs H1=>sp (vs++dvs) H1 Q E
noncomputable def xN (C:Addr) (m:Str) (sp:Sp) (dvs:List V) (E:XK) (ta:TE) (t:TA):TE:=λσ H Q=>ta σ H λx H1=>∃a dx fs,x=.ref a/\H1 a=some (.ins C dx fs)/\fs.lookup m=none/\
 t σ H1 λvs H2=>sp (x::(vs++dvs)) H2 Q E
noncomputable def Ac (C:Addr) (sp:Sp) (dvs:List V) (E:XK) (t:TA):TE:=λσ H Q=>t σ H λvs H1=>∀x dx,H1 x=none->H1 dx=none->dx≠x->
 sp (.ref x::(vs++dvs)) (upd (upd H1 dx (.own x)) x (.ins C dx [])) (λv H2=>v=.non/\Q (.ref x) H2) E
def cj (K:PySem.W.Frag) (fd:FuncData) (ps:List Str) (ds:List Value):Prop:=
 ∀(s:Shared) (us:List Value),K.In s.heap->(us++ds).length=ps.length->BindsTo s fd ⟨us,[]⟩ (ps.zip (us++ds))
theorem cj.all {K:W.Frag}{fd:FuncData}{ps:List Str} (h:∀us:List Value,us.length=ps.length->bindArgs fd ⟨us,[]⟩=pure (ps.zip us)):cj K fd ps []:=λs us _ hl=>by
 rw [List.append_nil]at hl ⊢
 exact .of_eq (h us hl)
def eM (CX:CXT) (X:Cx) (E:XK):Prop:=∀(pins:List (Addr × Obj)) (σ:St) (H:Hp) (s:Shared) (e:Value) (s':Shared),Inv X pins σ H s->CX X.stack H s E e s'->X.xe e s'
section
variable {X:Cx}{CX:CXT}{k:Nat}{f C:Addr}{fd:FuncData}{ps:List Str}{sp:Sp}{dvs:List V}{ds:List Value}{E:XK}{x m:Str}{p pos apos:Pos}{e o:Expr}{es:List Expr}{ta:TE}{t:TA}
theorem oV {pins:List (Addr × Obj)}{σ:St}{H:Hp}{s:Shared}{Q:VK}{us:List Value}{vs:List V} (F:FnOk X.prog X.w X.K X.mg X.base CX k f fd ps sp) (hr:Room k X.A) (hb:cj X.K fd ps ds) (hd:aJ dvs ds) (hx:eM CX X E)
  (I:Inv X pins σ H s) (r:aJ vs us) (h:sp (vs++dvs) H Q E):wpAny (model X.prog X.w) X.A (call (.ref f) us) (EP X pins σ Q) X.xe s:=by
 have r2:aJ (vs++dvs) (us++ds):=r.append hd
 have hl:(us++ds).length=ps.length:=by rw [<- r2.length];exact F.len _ _ _ _ h
 refine wpAny_call (codeAny_mono (F.run X.A X.stack s H ⟨us,[]⟩ (us++ds) (vs++dvs) Q E hr I.env0 (hb s us I.kIn hl) r2 h) λr s' hq=>?_)
 cases r with
 | error e=>exact hx pins σ H s e s' I hq
 | ok fl=>
  cases fl with
  | ret u=>exact I.after hq
  | next=>exact False.elim hq
  | brk=>exact False.elim hq
  | cont=>exact False.elim hq
theorem am (F:FnOk X.prog X.w X.K X.mg X.base CX k f fd ps sp) (hr:Room k X.A) (hg:Gl X x) (hm:X.mg x=some (.ref f)) (hk:PySem.W.keepIn X.K (.ref f)=true) (hb:cj X.K fd ps ds) (hd:aJ dvs ds) (hx:eM CX X E)
  (ha:PA X (e::es) t) (hdb:(x == ("__debug__" : Str))=false:=by decide) (he:starEach (e::es) X.env=(false,eval e X.env)::starEach es X.env:=by rfl) (hpl:(backTo pos (starEach es X.env)).any (·.1)=false:=by rfl) :
  PE X (.Call (.Name x p) (e::es) [] pos) (pV sp dvs E t):=by
 intro pins s σ H Q I h
 refine wpAny_Call_Name_kw (fV I hg hm ?_ hdb)
 refine PySem.W.callWith_K (h₀:=X.base) I.ok.mod.kin hk (thn (ha pos pins s σ H _ I h) λus s1 ⟨vs,H1,I1,r,q⟩=>⟨I1.kIn,?_⟩) he hpl
 exact oV F hr hb hd hx I1 r q
theorem bQ {pl:Sem Bool} (he:PE X o ta) (c:Cls X.K C) (hm:Meth X.K C m f) (F:FnOk X.prog X.w X.K X.mg X.base CX k f fd ps sp) (hr:Room k X.A) (hb:cj X.K fd ps ds) (hd:aJ dvs ds) (hx:eM CX X E) (ha:PA X (e::es) t)
  (hst:starEach (e::es) X.env=(false,eval e X.env)::starEach es X.env:=by rfl) (hpl:(backTo pos (starEach es X.env)).any (·.1)=false:=by rfl)
  (ht:eval (.Call (.Attribute o m apos) (e::es) [] pos) X.env=(do
   let ov <- eval o X.env
   standAt apos.atName
   let (f,first) <- holding [ov] (getMethod ov m pl)
   callWith pos f first (backTo pos (starEach (e::es) X.env)) (backToKw pos (keywordEach [] X.env))):=by rfl) :
  PE X (.Call (.Attribute o m apos) (e::es) [] pos) (xN C m sp dvs E ta t):=by
 intro pins s σ H Q I h
 refine PySem.W.methodCall_KW (pl:=pl) (thn (he pins s σ H _ I h) λu s1 ⟨x,H1,I1,rx,a,dx,fs,ex,ea,l,q⟩=>?_) ht
 subst ex
 obtain rfl:u=Value.ref a:=rx
 refine jQ I1 ea c hm l ?_
 refine PySem.W.callWith_K (first:=[.ref a]) (h₀:=X.base) I.ok.mod.kin hm.kp (thn (ha pos pins s1 σ H1 _ I1 q) λus s2 ⟨vs,H2,I2,r,q2⟩=>⟨I2.kIn,?_⟩) hst hpl
 exact oV (us:=.ref a::us) (vs:=.ref a::vs) F hr hb hd hx I2 (.cons rfl r) q2
theorem bY {pl:Sem Bool} (he:PE X o ta) (c:Cls X.K C) (hm:Meth X.K C m f) (F:FnOk X.prog X.w X.K X.mg X.base CX k f fd ps sp) (hr:Room k X.A) (hb:cj X.K fd ps ds) (hd:aJ dvs ds) (hx:eM CX X E)
  (ht:eval (.Call (.Attribute o m apos) [] [] pos) X.env=(do
   let ov <- eval o X.env
   standAt apos.atName
   let (f,first) <- holding [ov] (getMethod ov m pl)
   callWith pos f first (backTo pos (starEach [] X.env)) (backToKw pos (keywordEach [] X.env))):=by rfl) :
  PE X (.Call (.Attribute o m apos) [] [] pos) (xN C m sp dvs E ta gx):=by
 intro pins s σ H Q I h
 refine PySem.W.methodCall_KW (pl:=pl) (thn (he pins s σ H _ I h) λu s1 ⟨x,H1,I1,rx,a,dx,fs,ex,ea,l,q⟩=>?_) ht
 subst ex
 obtain rfl:u=Value.ref a:=rx
 refine jQ I1 ea c hm l ?_
 exact PySem.W.callWith_K0 (first:=[.ref a]) I1.kIn hm.kp (oV (us:=[.ref a]) (vs:=[.ref a]) F hr hb hd hx I1 (.cons rfl .nil) q)
structure Mk (K:PySem.W.Frag) (C f:Addr):Prop where
 makes:PySem.W.makesIn K C=true
 init:‹(K,C,f,"__init__")›
 fn:‹[K,f]›
 kp:PySem.W.keepIn K (.ref C)=true
theorem ug {pins:List (Addr × Obj)}{σ:St}{H:Hp}{s:Shared}{Q:VK}{us:List Value}{vs:List V} (M:Mk X.K C f) (F:FnOk X.prog X.w X.K X.mg X.base CX k f fd ps sp) (hr:Room (k+1) X.A) (hb:cj X.K fd ps ds) (hd:aJ dvs ds)
  (hx:eM CX X E) (I:Inv X pins σ H s) (r:aJ vs us)
  (h:∀x dx,H x=none->H dx=none->dx≠x->sp (.ref x::(vs++dvs)) (upd (upd H dx (.own x)) x (.ins C dx [])) (λv H2=>v=.non/\Q (.ref x) H2) E) :
  wpAny (model X.prog X.w) X.A (call (.ref C) us) (EP X pins σ Q) X.xe s:=by
 have hq:=h (s.heap.objs.size+1) s.heap.objs.size (I.hok.fresh (Nat.le_succ _)) (I.hok.fresh (Nat.le_refl _)) (Nat.ne_of_lt (Nat.lt_succ_self _))
 have I2:=Inv.made (C:=C) I
 have r2:aJ (V.ref (s.heap.objs.size+1)::(vs++dvs)) (Value.ref (s.heap.objs.size+1)::(us++ds)):=.cons rfl (r.append hd)
 have hl:(Value.ref (s.heap.objs.size+1)::us++ds).length=ps.length:=by
  have e:=r2.length
  rw [F.len _ _ _ _ hq]at e
  exact e.symm
 refine wpAny_call (vc (f:=f) I.kIn M.makes M.init (beq_iff_eq.mp M.fn) (codeAny_mono (F.run _ X.stack _ _ ⟨Value.ref (s.heap.objs.size+1)::us,[]⟩ (Value.ref (s.heap.objs.size+1)::(us++ds)) _ _ E (hr.make C us [])
  (I2.env0.make C us []) (hb _ (Value.ref (s.heap.objs.size+1)::us) I2.kIn hl) r2 hq) λr s' hq'=>?_))
 cases r with
 | error e=>exact hx pins σ _ _ e s' I2 hq'
 | ok fl=>
  cases fl with
  | ret u=>
   obtain⟨v,H',I3,rv,ev,q3⟩:=I2.after hq'
   subst ev
   exact⟨rv,⟨V.ref (s.heap.objs.size+1),H',I3,rfl,q3⟩⟩
  | next=>exact False.elim hq'
  | brk=>exact False.elim hq'
  | cont=>exact False.elim hq'
theorem wQ (M:Mk X.K C f) (F:FnOk X.prog X.w X.K X.mg X.base CX k f fd ps sp) (hr:Room (k+1) X.A) (hg:Gl X x) (hm:X.mg x=some (.ref C)) (hb:cj X.K fd ps ds) (hd:aJ dvs ds) (hx:eM CX X E)
  (ha:PA X (e::es) t) (hdb:(x == ("__debug__" : Str))=false:=by decide) (he:starEach (e::es) X.env=(false,eval e X.env)::starEach es X.env:=by rfl) (hpl:(backTo pos (starEach es X.env)).any (·.1)=false:=by rfl) :
  PE X (.Call (.Name x p) (e::es) [] pos) (Ac C sp dvs E t):=by
 intro pins s σ H Q I h
 refine wpAny_Call_Name_kw (fV I hg hm ?_ hdb)
 refine PySem.W.callWith_K (h₀:=X.base) I.ok.mod.kin M.kp (thn (ha pos pins s σ H _ I h) λus s1 ⟨vs,H1,I1,r,q⟩=>⟨I1.kIn,?_⟩) he hpl
 exact ug M F hr hb hd hx I1 r q
end
def PK (X:Cx) (kws:List Keyword) (t:TA):Prop:=
 ∀(pos:Pos) (pins:List (Addr × Obj)) (s:Shared) (σ:St) (H:Hp) (Q:List V->Hp->Prop),Inv X pins σ H s->t σ H Q->wpAny (model X.prog X.w) X.A (evalAll ((backToKw pos (keywordEach kws X.env)).map (·.2))) (AP X pins σ Q) X.xe s
section
variable {X:Cx}{CX:CXT}{k:Nat}{f C:Addr}{fd:FuncData}{ps ks:List Str}{sp:Sp}{E:XK}{x m:Str}{p pos apos kpos:Pos}{e o:Expr}{es:List Expr}{kws:List Keyword}{te ta:TE}{t tk:TA}{nm:Option Str}
theorem yQ:PK X [] gx:=λ_ _ _ _ H Q I h=>wpAny_evalAll_nil ⟨[],H,I,.nil,h⟩
theorem wM (ha:PE X e te) (hr:PK X kws t):PK X (⟨nm,e,kpos⟩::kws) (cW te t):=by
 intro pos pins s σ H Q I h
 show wpAny _ _ (evalAll ((do let v <- eval e X.env;standAt pos;pure v)::(backToKw pos (keywordEach kws X.env)).map (·.2))) _ _ s
 refine wpAny_evalAll_cons (zB0 (thn (ha pins s σ H _ I h) λu s1 ⟨x,H1,I1,r1,q1⟩=>zB0 (wpAny_standAt (zP0 ?_))))
 exact thn (hr pos pins s1 σ H1 _ I1 q1) λus s2 ⟨xs,H2,I2,r2,q2⟩=>⟨x::xs,H2,I2,.cons r1 r2,q2⟩
variable {g:List Value->List Value->List Value}{gV:List V->List V->List V}
end
structure FnScope (N P:List Str) (sc:Scope):Prop where
 kind:sc.kind=.function
 co:sc.isCoroutine=false
 gen:sc.isGenerator=false
 nd:N.Nodup
 pre:N.take P.length=P
 par:∀x∈P,sc.names.lookup x=some .local\/sc.names.lookup x=some .cell
 nofree:∀y∈sc.names,y.2≠.free
theorem ly {kindOf:Str->Option NameKind}{x:Str}:∀{binds:List (Str × Value)}{m:Str->Option Value},(∀v,(x,v)∉binds)->bindL kindOf binds m x=m x
 | [],_,_=>rfl
 | (n,v)::r,m,h=>by
  unfold bindL
  rw [ly λw hw=>h w (List.mem_cons_of_mem _ hw)]
  split
  ·have:x≠n:=by rintro rfl;exact h v List.mem_cons_self
   simp [this]
  ·rfl
theorem lA {kindOf:Str->Option NameKind}{x:Str}:∀{binds:List (Str × Value)}{m:Str->Option Value},(∀v,(x,v)∉binds)->bindC kindOf binds m x=m x
 | [],_,_=>rfl
 | (n,v)::r,m,h=>by
  unfold bindC
  rw [lA λw hw=>h w (List.mem_cons_of_mem _ hw)]
  split
  ·rfl
  ·have:x≠n:=by rintro rfl;exact h v List.mem_cons_self
   simp [this]
theorem lz {kindOf:Str->Option NameKind}{x:Str}{v:Value}:∀{P:List Str}{vs:List Value}{i:Nat}{m:Str->Option Value},P.Nodup->P[i]?=some x->vs[i]?=some v->kindOf x=some .local->
  bindL kindOf (P.zip vs) m x=some v
 | [],_,_,_,_,h,_,_=>by simp at h
 | _::_,[],_,_,_,_,h,_=>by simp at h
 | p::P,w::vs,0,m,nd,h1,h2,hk=>by
  simp at h1 h2;subst h1;subst h2
  show bindL kindOf ((p,w)::P.zip vs) m p=_
  unfold bindL
  rw [ly λv hv=>(List.nodup_cons.mp nd).1 (List.of_mem_zip hv).1,if_pos hk]
  simp
 | p::P,w::vs,i+1,m,nd,h1,h2,hk=>by
  show bindL kindOf ((p,w)::P.zip vs) m x=_
  unfold bindL
  exact lz (i:=i) (List.nodup_cons.mp nd).2 (by simpa using h1) (by simpa using h2) hk
theorem lB {kindOf:Str->Option NameKind}{x:Str}{v:Value}:∀{P:List Str}{vs:List Value}{i:Nat}{m:Str->Option Value},P.Nodup->P[i]?=some x->vs[i]?=some v->kindOf x≠some .local->
  bindC kindOf (P.zip vs) m x=some v
 | [],_,_,_,_,h,_,_=>by simp at h
 | _::_,[],_,_,_,_,h,_=>by simp at h
 | p::P,w::vs,0,m,nd,h1,h2,hk=>by
  simp at h1 h2;subst h1;subst h2
  show bindC kindOf ((p,w)::P.zip vs) m p=_
  unfold bindC
  rw [lA λv hv=>(List.nodup_cons.mp nd).1 (List.of_mem_zip hv).1,if_neg hk]
  simp
 | p::P,w::vs,i+1,m,nd,h1,h2,hk=>by
  show bindC kindOf ((p,w)::P.zip vs) m x=_
  unfold bindC
  exact lB (i:=i) (List.nodup_cons.mp nd).2 (by simpa using h1) (by simpa using h2) hk
noncomputable def dM (N:List Str) (vs:List V):St:=vs.map some++List.replicate (N.length - vs.length) none
noncomputable def fm (CX:CXT) (P:Program) (w:World) (K:PySem.W.Frag) (mg:Str->Option Value) (base:Heap) (N:List Str) (qual:Str) (scope:Scope) (f:Addr) (cd:Value) (A:Around) (outer:List Env) (s:Shared) (H:Hp) (E:XK):Cx where
 prog:=P
 w:=w
 K:=K
 mg:=mg
 base:=base
 A:=A.deeper (envOfC qual scope s.heap.objs.size f cd)
 N:=N
 s₀:=s
 H₀:=H
 env:=envOfC qual scope s.heap.objs.size f cd
 outer:=outer
 stack:=envOfC qual scope s.heap.objs.size f cd::outer
 ex:=[]
 calm:=true
 fn:=λ_=>true
 pn:=[]
 xe:=λe s'=>wpAny (model P w) (A.deeper (envOfC qual scope s.heap.objs.size f cd)) (leaving (envOfC qual scope s.heap.objs.size f cd) e) (λ_ s''=>CX outer H s E e s'') (λe' s''=>CX outer H s E e' s'') s'
theorem o7 {sc:Scope}{n:Nat}{x:Str} (h:sc.names.lookup x=some .cell):∃c,(cellsFrom n sc.names []).lookup x=some c:=by
 have q:=PySem.W.cellsFrom_some sc.names n [] (.inl h)
 exact Option.isSome_iff_exists.mp q
theorem sr {CX:CXT}{P:Program}{w:World}{K:W.Frag}{mg:Str->Option Value}{base:Heap}{N ps:List Str}{qual:Str}{scope:Scope}{f:Addr}{cd:Value}{A:Around}{outer:List Env}{s s1:Shared}{H:Hp}{E:XK}{us:List Value}{vs:List V}
  (S:FnScope N ps scope) (hd:A.handled=none) (e0:Env0 P w K mg base A outer s H) (hl:vs.length=ps.length) (r:aJ vs us)
  (x:InCallC s s.heap.objs.size (bindL (envOfC qual scope s.heap.objs.size f cd).kindOf (ps.zip us) λ_=>none) (cellsFrom (s.heap.objs.size+1) scope.names []) (bindC (envOfC qual scope s.heap.objs.size f cd).kindOf (ps.zip us) λ_=>none) s1) :
  Inv (fm CX P w K mg base N qual scope f cd A outer s H E) [] (dM N vs) H s1:=by
 have hpl:ps.length<=N.length:=by have:=congrArg List.length S.pre;rw [List.length_take]at this;omega
 obtain⟨h1,tk,rfl,hk⟩:=x.done
 have noA:∀b:Addr,b∉(fm CX P w K mg base N qual scope f cd A outer s H E).ex:=λb z=>absurd (show b∈([]:List Addr) from z) (by simp)
 refine⟨⟨e0.mod,S.kind,rfl,rfl,Nat.le_refl _,λy z c h1 h2=>?_,λy hy=>?_,λy c _ h=>?_,λ_=>hd,Around.frames_deeper e0.frames,.inr ⟨rfl,rfl⟩,λb z=>absurd z (noA b),e0.bs,e0.bsz,λb _ _=>noA b,λb z=>absurd z (noA b),e0.funs,e0.frf⟩,
  rfl,e0.bare,Un.kept hk,⟨_,x.toInCall.ns,λi y v h1 h2 h3=>?_⟩,λy c h=>⟨_,x.cell y c h⟩,e0.hok.fresh (Nat.le_refl _),λy c h=>?_,λp hp=>absurd (show p∈([]:List (Addr × Obj)) from hp) (by simp),e0.hok.kept hk,?_⟩
 ·exact name_of_addr x.apart (PySem.mem_of_lookup h1) (PySem.mem_of_lookup h2)
 ·have hy:scope.names.lookup y=some .cell\/scope.names.lookup y=some .free:=hy
  rcases hy with hy | hy
  ·exact o7 hy
  ·exact absurd rfl (S.nofree _ (PySem.mem_of_lookup hy))
 ·exact Nat.le_of_lt (x.above y c (PySem.mem_of_lookup h))
 ·have hi:i < vs.length:=by
   unfold dM at h2
   by_cases hi:i < vs.length
   ·exact hi
   ·rw [List.getElem?_append_right (by simpa using hi)]at h2
    rw [List.getElem?_replicate]at h2
    split at h2 <;> cases h2
  have ha:vs[i]?=some v:=by
   unfold dM at h2
   rw [List.getElem?_append_left (by simpa using hi),List.getElem?_map]at h2
   cases e:vs[i]? with
   | none=>rw [e]at h2;cases h2
   | some a=>rw [e]at h2;cases h2;rfl
  obtain⟨u,hu,rv⟩:=r.get ha
  have hp:ps[i]?=some y:=by
   rw [<- S.pre,List.getElem?_take_of_lt ‹1›];exact h1
  have ndP:ps.Nodup:=by rw [<- S.pre];exact S.nd.sublist (List.take_sublist _ _)
  refine⟨u,rv,?_⟩
  rcases S.par y (List.mem_of_getElem? hp) with k | k
  ·exact .inl ⟨k,lz ndP hp hu k⟩
  ·obtain⟨c,e⟩:=o7 (n:=s.heap.objs.size+1) k
   refine .inr ⟨.inl k,c,e,?_⟩
   have q:=x.cell y c e
   rw [lB ndP hp hu (by show scope.names.lookup y≠_;rw [k];decide)]at q
   exact q
 ·exact e0.hok.fresh (Nat.le_of_lt (x.above y c (PySem.mem_of_lookup h)))
 ·unfold dM
  show _=N.length
  rw [List.length_append,List.length_map,List.length_replicate]
  omega
theorem o0 {CX:CXT}{P:Program}{w:World}{K:W.Frag}{mg:Str->Option Value}{base:Heap}{k:Nat}{f:Addr}{name qual:Str}{params:Arguments}{body:List Stmt}{scope:Scope}{dV kV doc pm cdv ct oc:Value}{an od:Option Addr}
  {osl:Array (Option Value)}{N ps:List Str}{sp:Sp} (lk:K.lookup f=some ⟨oc,od,.func (PySem.W.fnOf name qual params body scope dV kV doc pm an cdv ct),osl⟩) (hcd:PySem.W.codeIn K cdv qual=true) (S:FnScope N ps scope)
  (len:∀vs H Q E,sp vs H Q E->vs.length=ps.length)
  (hbody:∀(A:Around) (outer:List Env) (s:Shared) (H:Hp) (vs:List V) (Q:VK) (E:XK),Room k (A.deeper (envOfC qual scope s.heap.objs.size f cdv))->sp vs H Q E->
   ∃t,PSs (fm CX P w K mg base N qual scope f cdv A outer s H E) body t/\t { nx:=λ_ H'=>Q .non H',rt:=Q } (dM N vs) H) :
  FnOk P w K mg base CX (k+1) f (PySem.W.fnOf name qual params body scope dV kV doc pm an cdv ct) ps sp:=by
 refine⟨len,λA outer s H args us vs Q E hr e0 hb r hsp=>?_⟩
 have hl:=len _ _ _ _ hsp
 have KX:K.In s.heap:=e0.mod.kin.keeps λb o e=>(e0.bs b o e).1
 have lim:s.heap.NoLimit:=e0.mod.nolimit.keeps λb o e=>(e0.bs b o e).1
 have hkind:∀y∈ps.zip us,scope.names.lookup y.1=some .local\/(scope.names.lookup y.1=some .cell/\((cellsFrom (s.heap.objs.size+1) scope.names []).lookup y.1).isSome=true):=λ⟨n,v⟩ hy=>by
  rcases S.par n (List.of_mem_zip hy).1 with q | q
  ·exact .inl q
  ·exact .inr ⟨q,PySem.W.cellsFrom_some _ _ _ (.inl q)⟩
 refine codeAny_call_function hr.depth (KX _ _ lk) rfl S.co S.gen rfl (PySem.W.codeRec_of KX hcd) (hb _ _ _ _ ?_)
 refine wpAny_newFunctionEnv_cells S.kind hkind λenv he s1 x=>?_
 subst he
 refine⟨lim.keeps x.toInCall.keep,codeAny_func ?_⟩
 obtain⟨t,ht,hq⟩:=hbody A outer s H vs Q E (hr.deeper _) hsp
 have I:Inv (fm CX P w K mg base N qual scope f cdv A outer s H E) [] (dM N vs) H s1:=sr S hr.hd e0 hl r x
 refine wpAny_mono (ht [] s1 (dM N vs) H _ I hq) (λfl s' hs=>?_) λe s' hs=>hs
 have fin:∀{σ':St}{H':Hp}{v:V}{u:Value},Inv (fm CX P w K mg base N qual scope f cdv A outer s H E) [] σ' H' s'->aP v u->Q v H'->CE outer P w H s Q u s':=
  λ{σ' H' v u} J rv q=>⟨v,H',J.os,J.bare,J.base,J.hok,rv,q⟩
 cases fl with
 | ret u=>
  obtain⟨v,σ',H',J,rv,q⟩:=hs
  exact fin J rv q
 | next=>
  obtain⟨σ',H',J,q⟩:=hs
  exact fin (v:=V.non) (u:=Value.none) J rfl q
 | brk=>
  obtain⟨_,_,_,q⟩:=hs
  exact False.elim q
 | cont=>
  obtain⟨_,_,_,q⟩:=hs
  exact False.elim q
section
variable {X:Cx}{x:Str}{p pos:Pos}{e:Expr}{es:List Expr}{t:TA}{id T:String}{r:List V->Hp->VK->Prop}
noncomputable def tCB (r:List V->Hp->VK->Prop) (t:TA):TE:=λσ H Q=>t σ H λvs H1=>r vs H1 Q
theorem aG (hc:eF X (.builtin id) r) (hg:Gl X x) (hm:X.mg x=none) (hv:bootBuiltins x=some (.builtin id)) (ha:PA X (e::es) t) (hn:x≠"__name__":=by decide) (hdb:(x == ("__debug__" : Str))=false:=by decide)
  (he:starEach (e::es) X.env=(false,eval e X.env)::starEach es X.env:=by rfl) (hpl:(backTo pos (starEach es X.env)).any (·.1)=false:=by rfl):PE X (.Call (.Name x p) (e::es) [] pos) (tCB r t):=by
 intro pins s σ H Q I h
 refine wpAny_Call_Name_kw (iy I hg hm hv ?_ hn hdb)
 exact PyProof.Rows.callWith_builtin1 (thn (ha pos pins s σ H _ I h) λus s1 ⟨vs,H1,I1,r1,q1⟩=>hc pins s1 σ H1 vs us Q I1 r1 q1) he hpl
theorem cI (hc:eF X (.type T) r) (hg:Gl X x) (hm:X.mg x=none) (hv:bootBuiltins x=some (.type T)) (ha:PA X (e::es) t) (hn:x≠"__name__":=by decide) (hdb:(x == ("__debug__" : Str))=false:=by decide)
  (he:starEach (e::es) X.env=(false,eval e X.env)::starEach es X.env:=by rfl) (hpl:(backTo pos (starEach es X.env)).any (·.1)=false:=by rfl):PE X (.Call (.Name x p) (e::es) [] pos) (tCB r t):=by
 intro pins s σ H Q I h
 refine wpAny_Call_Name_kw (iy I hg hm hv ?_ hn hdb)
 exact PyProof.Rows.callWith_type1 (thn (ha pos pins s σ H _ I h) λus s1 ⟨vs,H1,I1,r1,q1⟩=>hc pins s1 σ H1 vs us Q I1 r1 q1) he hpl
end
end L2
local macro_rules|`(tactic|walk_at "d")=>`(tactic|dsimp only [L2.aK,List.set_cons_zero,List.set_cons_succ])
namespace HT
open PySem PyProof.Rows
section
open PySem.SeqAt
open PySem.AutoSeq1 (wpAny_loadPart')
open PySem.MeetsSeq PySem.MeetsSeq2 PySem.MeetsSeq3
end
section
variable {prog:Program}{w:World}{A:Around}{E:Value->Shared->Prop}{s:Shared}
theorem cat_tup {t b:Addr}{vs ws:List Value}{Q:Value->Shared->Prop} (ht:IsTup s.heap t vs.toArray) (hb:IsTup s.heap b ws.toArray) (hv:vs≠[])
  (h1:ws=[]->Q (.ref t) s) (h2:ws≠[]->Q (.ref s.heap.objs.size) { s with heap:=s.heap.push { cls:=.type "tuple", data:=.seq (vs++ws).toArray } })
  (hsz:vs.length+ws.length<=sizeLine):wpAny (model prog w) A (binaryOp .Add (.ref t) (.ref b)) Q E s:=by
 obtain⟨⟨cls,dd,data,sl⟩,ho,hc,n,hd⟩:=id ht
 obtain⟨⟨cls2,dd2,data2,sl2⟩,ho2,hc2,n2,hd2⟩:=id hb
 simp only at hc hd hc2 hd2
 subst hc hd hc2 hd2
 have e:vs.toArray++ws.toArray=(vs++ws).toArray:=by simp
 by_cases hw:ws=[]
 ·exact concat_meets ⟨_,ho,rfl⟩ ⟨_,ho2,rfl⟩ noFill_tuple_add seq_tuple_add PySem.F.slot_tuple_add PySem.F.entry_tuple_add (PySem.F.args_tuple_add_2 _ _)
   (tuple_addW1 t b vs.toArray ws.toArray n n2 dd dd2 sl sl2 (by simpa using hv) (by simp [hw])) ⟨ho,ho2,h1 hw⟩
 ·refine concat_meets ⟨_,ho,rfl⟩ ⟨_,ho2,rfl⟩ noFill_tuple_add seq_tuple_add PySem.F.slot_tuple_add PySem.F.entry_tuple_add (PySem.F.args_tuple_add_2 _ _)
   (tuple_addW2 t b vs.toArray ws.toArray n n2 dd dd2 sl sl2 (by simpa using hv) (by simpa using hw) (by rw [List.size_toArray,List.size_toArray];exact hsz)) ⟨ho,ho2,?_⟩
  rw [e]
  exact h2 hw
noncomputable def sIx (n d:Nat):Option Int->Nat
 | none=>d
 | some v=>if v < 0 then (v+(n:Int)).toNat else min v.toNat n
theorem yE (n d:Nat) (hd:d<=n) (o:Option Int):sIx n d o<=n:=by
 cases o with
 | none=>exact hd
 | some v=>
  show (if v < 0 then (v+(n:Int)).toNat else min v.toNat n)<=n
  by_cases hv:v < 0
  ·rw [if_pos hv];omega
  ·rw [if_neg hv];exact Nat.min_le_right _ _
theorem qN (v:Int) (n d:Nat):(if v < 0 then max (v+(n:Int)) 0 else min v (n:Int))=((sIx n d (some v):Nat):Int):=by
 show (if v < 0 then max (v+(n:Int)) 0 else min v (n:Int))=(((if v < 0 then (v+(n:Int)).toNat else min v.toNat n):Nat):Int)
 by_cases hv:v < 0
 ·simp only [if_pos hv];omega
 ·simp only [if_neg hv];omega
theorem pN (lo hi:Option Int) (n:Nat):Builtin.Slice.sliceAdjust lo hi 1 (n:Int)=(((sIx n 0 lo:Nat):Int),((sIx n n hi:Nat):Int)):=by
 have h1:¬((1:Int) < 0):=by omega
 unfold Builtin.Slice.sliceAdjust
 simp only [h1,if_false]
 refine Prod.ext ?_ ?_
 ·cases lo with
  | none=>rfl
  | some v=>exact qN v n 0
 ·cases hi with
  | none=>rfl
  | some v=>exact qN v n n
theorem oZ (i j:Nat):Builtin.Slice.slicePlaces (i:Int) (j:Int) 1=j - i:=by
 unfold Builtin.Slice.slicePlaces
 have h1:(1:Int) > 0:=by omega
 simp only [h1,if_true,Int.ediv_one]
 split <;> omega
theorem jn {v:Value}{o:Option Int}{Q:Option Int->Shared->Prop} (p:IsPart v o) (h:Q o s):wpAny (model prog w) A (Builtin.Slice.slicePartIndex v) Q E s:=by
 cases p with
 | none=>exact slicePart_none h
 | int i t=>exact slicePart_int h
theorem iq {sl:Addr}{vl vu:Value}{lo hi:Option Int}{n:Nat}{Q:Int × Int × Nat->Shared->Prop} (hs:s.heap.IsSliceOf sl vl vu .none) (pl:IsPart vl lo) (pu:IsPart vu hi)
  (h:Q (((sIx n 0 lo:Nat):Int),1,sIx n n hi - sIx n 0 lo) s):wpAny (model prog w) A (Builtin.Slice.sliceApplied (.ref sl) (pure (n:Int))) Q E s:=by
 obtain⟨os,hos,hcs,hds⟩:=id hs
 unfold Builtin.Slice.sliceApplied Builtin.Slice.sliceFields
 refine zB0 (zB0 (wpAny_field hos hds (x:=vl) rfl (zB0 (wpAny_field hos hds (x:=vu) rfl (zB0 (wpAny_field hos hds (x:=.none) rfl (zP0 ?_)))))))
 refine zB0 (slicePart_none ?_)
 show wpAny _ _ (if ((1:Int) == 0)=true then _ else _) _ _ s
 rw [if_neg (by decide)]
 refine zB0 (jn pl (zB0 (jn pu (zB0 (zP0 ?_)))))
 show wpAny _ _ (match Builtin.Slice.sliceAdjust lo hi 1 (n:Int) with | (lo,hi)=>pure (lo,(1:Int),Builtin.Slice.slicePlaces lo hi 1)) _ _ s
 rw [pN lo hi n]
 show wpAny _ _ (pure (((sIx n 0 lo:Nat):Int),(1:Int),Builtin.Slice.slicePlaces ((sIx n 0 lo:Nat):Int) ((sIx n n hi:Nat):Int) 1)) _ _ s
 rw [oZ]
 exact zP0 h
theorem ut (xs:Array Value) (i k:Nat):((List.range k).filterMap λ(m:Nat)=>xs[((i:Int)+(m:Int) * 1).toNat]?).toArray=((xs.toList.drop i).take k).toArray:=by
 have e:(λ(m:Nat)=>xs[((i:Int)+(m:Int) * 1).toNat]?)=λm=>xs[i+m]?:=by
  funext m
  have:((i:Int)+(m:Int) * 1).toNat=i+m:=by omega
  rw [this]
 rw [e]
 have:=pick_run xs i k
 rw [List.filterMap_map]at this
 have e2:((λx=>xs[x]?) ∘ λx=>i+x)=λm=>xs[i+m]?:=rfl
 rw [e2]at this
 rw [this]
theorem getItem_tuple_cut {t sl:Addr}{items:Array Value}{vl vu:Value}{lo hi:Option Int}{Q:Value->Shared->Prop} (ht:IsTup s.heap t items) (hs:s.heap.IsSliceOf sl vl vu .none) (pl:IsPart vl lo) (pu:IsPart vu hi)
  (hw:¬(sIx items.size 0 lo=0/\sIx items.size items.size hi=items.size))
  (h:Q (.ref s.heap.objs.size) { s with heap:=s.heap.push { cls:=.type "tuple", data:=.seq ((items.toList.drop (sIx items.size 0 lo)).take (sIx items.size items.size hi - sIx items.size 0 lo)).toArray } })
  (hsz:items.size<=sizeLine):wpAny (model prog w) A (getItem (.ref t) (.ref sl)) Q E s:=by
 have htake:sizeOk (.seq ((items.toList.drop (sIx items.size 0 lo)).take (sIx items.size items.size hi - sIx items.size 0 lo)).toArray):=by
  show ((items.toList.drop (sIx items.size 0 lo)).take (sIx items.size items.size hi - sIx items.size 0 lo)).toArray.size<=sizeLine
  rw [List.size_toArray,List.length_take,List.length_drop,Array.length_toList]
  omega
 have hj:sIx items.size items.size hi<=items.size:=yE _ _ (Nat.le_refl _) hi
 obtain⟨os,hos,hcs,hds⟩:=id hs
 have hTs:s.TypeIs (.ref sl) "slice":=⟨os,hos,hcs⟩
 unfold getItem
 try with_reducible refine wpAny_holding ?_
 first | refine zB0 (zP0 ?_) | skip
 refine zB0 (wpAny_sequenceKey ht.typeIs (by decide) ?_)
 refine zB0 (wpAny_callSpecial?_slot (name:=‹"__getitem__"›) ht.typeIs PyProof.Rows.slot_tuple_getitem
  (wpAny_call_entry PyProof.Rows.slot_tuple_getitem ht.typeIs entry_tuple_getitem ?_ (args_tuple_getitem _ _)))
 show wpAny _ _ (Builtin.Tuple.tupleItemsOf (.ref t) >>= _) _ _ s
 refine zB0 (tupleItemsOf_ ht ?_)
 refine zB0 (wpAny_typeOf hTs ?_)
 rw [if_pos (by decide)]
 refine zB0 (iq hs pl pu ?_)
 have hno:¬((((sIx items.size 0 lo:Nat):Int) == 0 && (1:Int) == 1 && (sIx items.size items.size hi - sIx items.size 0 lo) == items.size)=true):=by
  intro q
  rw [Bool.and_eq_true,Bool.and_eq_true]at q
  have q1:((sIx items.size 0 lo:Nat):Int)=0:=eq_of_beq q.1.1
  have q2:sIx items.size items.size hi - sIx items.size 0 lo=items.size:=eq_of_beq q.2
  exact hw ⟨by omega,by omega⟩
 show wpAny _ _ (if (((sIx items.size 0 lo:Nat):Int) == 0 && (1:Int) == 1 && (sIx items.size items.size hi - sIx items.size 0 lo) == items.size)=true then _ else _) _ _ s
 rw [if_neg hno,ut]
 first
  | exact zB0 (m:=Builtin.Tuple.tupleExact _) (wpAny_newObj_type (zP0 ⟨_,rfl,zP0 h⟩) htake)
  | exact zB0 (m:=Builtin.Tuple.tupleExact _) (wpAny_newObj_type (zB0 (zP0 (zP0 ⟨_,rfl,zP0 h⟩))) htake)
  | exact zB0 (zB0 (m:=Builtin.Tuple.tupleExact _) (wpAny_newObj_type (zP0 (zP0 ⟨_,rfl,zP0 h⟩)) htake))
  | exact zB0 (zB0 (m:=Builtin.Tuple.tupleExact _) (wpAny_newObj_type (zP0 ⟨_,rfl,zP0 h⟩) htake))
end
end HT
namespace L2
open PySem PySem.Spec PyProof.Rows
noncomputable abbrev TO:=St->Hp->(Option Int->Hp->Prop)->Prop
def PO (X:Cx) (e:Option Expr) (t:TO):Prop:=
 ∀(pins:List (Addr × Obj)) (s:Shared) (σ:St) (H:Hp) (Q:Option Int->Hp->Prop),Inv X pins σ H s->t σ H Q->
  wpAny (model X.prog X.w) X.A (evalPart e X.env) (λu s'=>∃o H',Inv X pins σ H' s'/\IsPart u o/\Q o H') X.xe s
noncomputable def wb:TO:=λ_ H Q=>Q none H
noncomputable def A7 (t:TE):TO:=λσ H Q=>t σ H λx H1=>∃i,x=.int i/\Q (some i) H1
section
variable {X:Cx}{e:Expr}{te:TE}{lo hi:Option Expr}{tl th:TO}{pos p2:Pos}
theorem dF:PO X none wb:=by
 intro pins s σ H Q I h
 rw [evalPart_none]
 exact zP0 ⟨none,H,I,.none,h⟩
theorem cw (h:PE X e te):PO X (some e) (A7 te):=by
 intro pins s σ H Q I hw
 rw [evalPart_some]
 refine thn (h pins s σ H _ I hw) λu s1 ⟨x,H1,I1,r1,q1⟩=>?_
 obtain⟨i,rfl,q⟩:=q1
 obtain⟨t,rfl⟩:=r1
 exact⟨some i,H1,I1,.int i t,q⟩
def SlR (X:Cx) (r:V->Option Int->Option Int->Hp->VK->Prop):Prop:=
 ∀(pins:List (Addr × Obj)) (s:Shared) (σ:St) (H:Hp) (x:V) (v vl vu:Value) (lo hi:Option Int) (sl:Addr) (Q:VK),Inv X pins σ H s->aP x v->s.heap.IsSliceOf sl vl vu .none->IsPart vl lo->IsPart vu hi->r x lo hi H Q->
  ∃T id,typeLookup (.type T) "__getitem__" = pure (some (.builtin id))/\s.TypeIs v T/\wpAny (model X.prog X.w) X.A (getItem v (.ref sl)) (EP X pins σ Q) X.xe s
noncomputable def tSl (r:V->Option Int->Option Int->Hp->VK->Prop) (te:TE) (tl th:TO):TE:=λσ H Q=>te σ H λx H1=>tl σ H1 λl H2=>th σ H2 λu H3=>r x l u H3 Q
theorem cq {r:V->Option Int->Option Int->Hp->VK->Prop} (hr:SlR X r) (he:PE X e te) (hl:PO X lo tl) (hu:PO X hi th):PE X (.Subscript e (.Slice lo hi none p2) pos) (tSl r te tl th):=by
 intro pins s σ H Q I h
 refine Subscript_ (thn (he pins s σ H _ I h) λv s1 ⟨x,H1,I1,r1,q1⟩=>?_)
 refine wpAny_Slice (thn (hl pins s1 σ H1 _ I1 q1) λvl s2 ⟨l,H2,I2,pl,q2⟩=>thn (hu pins s2 σ H2 _ I2 q2) λvu s3 ⟨u,H3,I3,pu,q3⟩=>?_)
 rw [evalPart_none]
 refine zP0 ?_
 have I4:Inv X pins σ H3 { s3 with heap:=s3.heap.push { cls:=.type "slice", data:=.fields #[vl,vu,.none] } }:=I3.kept (t':=s3.toks) λb ob q=>zH0 _ q
 obtain⟨T,id,hT,ht,hg⟩:=hr pins { s3 with heap:=s3.heap.push { cls:=.type "slice", data:=.fields #[vl,vu,.none] } } σ H3 x v vl vu l u s3.heap.objs.size Q I4 r1 (Heap.IsSliceOf.new ..) pl pu q3
 show wpAny (model X.prog X.w) X.A (subscriptTail e (.Slice lo hi none p2) v (.ref s3.heap.objs.size)) (EP X pins σ Q) X.xe { s3 with heap:=s3.heap.push { cls:=.type "slice", data:=.fields #[vl,vu,.none] } }
 exact tail_any (ops:=[.ref s3.heap.objs.size,v]) ht hT hg (by with_unfolding_all rfl)
noncomputable def cutV (xs:List V) (lo hi:Option Int):List V:=(xs.drop (HT.sIx xs.length 0 lo)).take (HT.sIx xs.length xs.length hi - HT.sIx xs.length 0 lo)
theorem fO (xs:List V) (lo hi:Option Int):(cutV xs lo hi).length<=xs.length:=by
 unfold cutV
 rw [List.length_take,List.length_drop]
 omega
noncomputable def B5 (K:PySem.W.Frag):V->Option Int->Option Int->Hp->VK->Prop:=λx lo hi H Q=>∃a xs,x=.ref a/\SqT K H a xs/\
 ¬(HT.sIx xs.length 0 lo=0/\HT.sIx xs.length xs.length hi=xs.length)/\∀p,H p=none->Q (.ref p) (upd H p (.tup (cutV xs lo hi)))
theorem ir:SlR X (B5 X.K):=by
 intro pins s σ H x v vl vu lo hi sl Q I rx hs pl pu h
 obtain⟨a,xs,rfl,hx,hw,q⟩:=h
 cases rx
 obtain⟨its,r,ht,hz⟩:=I.tuple hx
 have hlen:its.toArray.size=xs.length:=by rw [List.size_toArray];exact r.length.symm
 refine⟨"tuple", _,PyProof.Rows.slot_tuple_getitem.lookup,ht.typeIs,?_⟩
 refine HT.getItem_tuple_cut ht hs pl pu (by rw [hlen];exact hw) ?_ (by rw [hlen];exact hz)
 rw [hlen]
 refine⟨.ref s.heap.objs.size,_,I.laid (t':=s.toks) (o:=.tup (cutV xs lo hi)) (λb ob q=>zH0 _ q) (Nat.le_refl _) ?_,rfl,q _ (I.hok.fresh (Nat.le_refl _))⟩
 exact⟨Nat.le_trans (fO xs lo hi) hz,_,(r.drop (HT.sIx xs.length 0 lo)).take (HT.sIx xs.length xs.length hi - HT.sIx xs.length 0 lo),IsTup.new _ _⟩
noncomputable def Az (K:PySem.W.Frag):R2:=λx y H Q=>∃a b xs ys,x=.ref a/\y=.ref b/\SqT K H a xs/\SqT K H b ys/\xs≠[]/\xs.length+ys.length<=sizeLine/\
 (ys=[]->Q (.ref a) H)/\(ys≠[]->∀p,H p=none->Q (.ref p) (upd H p (.tup (xs++ys))))
theorem aJ.nil_iff {xs:List V}{us:List Value} (r:aJ xs us):us=[]↔xs=[]:=by
 cases r with
 | nil=>simp
 | cons _ _=>simp
theorem qA:OpR X (binaryOp .Add) (Az X.K):=by
 intro pins s σ H x y v u Q I rx ry h
 obtain⟨a,b,xs,ys,rfl,rfl,ha,hb,hx,hz,q1,q2⟩:=h
 cases rx
 cases ry
 obtain⟨its,r1,p1,_⟩:=I.tuple ha
 obtain⟨its2,r2,p2,_⟩:=I.tuple hb
 refine HT.cat_tup p1 p2 (λz=>hx (r1.nil_iff.mp z)) (λz=>⟨.ref a,H,I,rfl,q1 (r2.nil_iff.mp z)⟩) (λz=>?_) (by rw [<- r1.length,<- r2.length];exact hz)
 refine⟨.ref s.heap.objs.size,_,I.laid (t':=s.toks) (o:=.tup (xs++ys)) (λb ob q=>zH0 _ q) (Nat.le_refl _) ?_,rfl,q2 (λw=>z (r2.nil_iff.mpr w)) _ (I.hok.fresh (Nat.le_refl _))⟩
 exact⟨by rw [List.length_append];exact hz,_,r1.append r2,IsTup.new _ _⟩
end
noncomputable def ixN (n:Nat) (i:Int):Option Nat:=if 0<=i then (if i < n then some i.toNat else none) else if -(n:Int)<=i then some (i+n).toNat else none
noncomputable def atI {α:Type} (xs:List α) (i:Int):Option α:=(ixN xs.length i).bind λj=>xs[j]?
theorem qE {n:Nat}{i:Int}{j:Nat} (h:ixN n i=some j):seqIndex? i n=some j/\j < n/\-(n:Int)<=i/\i < n:=by
 unfold ixN at h
 by_cases h0:0<=i
 ·rw [if_pos h0]at h
  by_cases h1:i < n
  ·rw [if_pos h1]at h
   have e:i.toNat=j:=Option.some.inj h
   exact⟨by rw [seqIndex_of h0 h1,e],by omega,by omega,h1⟩
  ·rw [if_neg h1]at h;cases h
 ·rw [if_neg h0]at h
  by_cases h1 : -(n:Int)<=i
  ·rw [if_pos h1]at h
   have e:(i+n).toNat=j:=Option.some.inj h
   exact⟨by rw [seqIndex_neg ‹1› h1,e],by omega,h1,by omega⟩
  ·rw [if_neg h1]at h;cases h
theorem mE {α:Type}{xs:List α}{i:Int}{v:α} (h:atI xs i=some v):∃j,seqIndex? i xs.length=some j/\xs[j]?=some v/\j < xs.length/\-(xs.length:Int)<=i/\i < xs.length:=by
 unfold atI at h
 cases e:ixN xs.length i with
 | none=>rw [e]at h;cases h
 | some j=>
  rw [e]at h
  obtain⟨h1,h2,h3,h4⟩:=qE e
  exact⟨j,h1,h,h2,h3,h4⟩
theorem cD {α:Type}{xs:List α}{j:Nat}{v:α} (h:xs[j]?=some v):atI xs (j:Int)=some v:=by
 have hj:j < xs.length:=(List.getElem?_eq_some_iff.mp h).1
 have e:ixN xs.length (j:Int)=some j:=by
  unfold ixN
  rw [if_pos ‹1›,if_pos ‹1›];simp
 unfold atI;rw [e];exact h
theorem fQ {α:Type} (xs:List α) (v:α):atI (xs++[v]) (-1)=some v:=by
 have hl:(xs++[v]).length=xs.length+1:=by simp
 have e:ixN (xs++[v]).length (-1)=some xs.length:=by
  unfold ixN
  rw [hl,if_neg (by decide),if_pos ‹1›]
  congr 1
  omega
 unfold atI
 rw [e]
 show (xs++[v])[xs.length]?=some v
 simp
def xK (b:Expr):Prop:=∀o i,subscripted b false o i=operate [o,i] (getItem o i)
def IxR (X:Cx) (r:R2):Prop:=
 ∀(value slice:Expr) (pins:List (Addr × Obj)) (s:Shared) (σ:St) (H:Hp) (x y:V) (v u:Value) (Q:VK),Inv X pins σ H s->aP x v->aP y u->r x y H Q->
  subscripted slice false v u=operate [v,u] (getItem v u)->wpAny (model X.prog X.w) X.A (subscriptTail value slice v u) (EP X pins σ Q) X.xe s
def MtR (X:Cx) (id:String) (r:V->List V->Hp->VK->Prop):Prop:=
 ∀(pins:List (Addr × Obj)) (s:Shared) (σ:St) (H:Hp) (x:V) (xs:List V) (v:Value) (us:List Value) (Q:VK),Inv X pins σ H s->aP x v->aJ xs us->r x xs H Q->
  wpAny (model X.prog X.w) X.A (call (.builtin id) (v::us)) (EP X pins σ Q) X.xe s
section
variable {X:Cx}{a b:Expr}{ta tb:TE}{pos:Pos}
theorem aH {r:R2} (hr:IxR X r) (ha:PE X a ta) (hb:PE X b tb) (hs:xK b):PE X (.Subscript a b pos) (tOp r ta tb):=by
 intro pins s σ H Q I h
 exact Subscript_ (zM ha hb I h λv u s2 x y H2 I2 rx ry q=>hr a b pins s2 σ H2 x y v u Q I2 rx ry q (hs _ _))
inductive Ay (K:PySem.W.Frag) (x:V) (y:V) (H:Hp) (Q:VK):Prop
 | mk (p xs i v) (h1:x=.ref p) (h2:y=.int i) (h3:SqL K H p xs) (h4:atI xs i=some v) (h5:Q v H):Ay K x y H Q
inductive Aw (K:PySem.W.Frag) (x:V) (y:V) (H:Hp) (Q:VK):Prop
 | mk (p xs i v) (h1:x=.ref p) (h2:y=.int i) (h3:SqT K H p xs) (h4:atI xs i=some v) (h5:Q v H):Aw K x y H Q
inductive Ax (x:V) (y:V) (H:Hp) (Q:VK):Prop
 | mk (z i c) (h1:x=.str z) (h2:y=.int i) (h3:z.length<=sizeLine) (h4:atI z.cps.toList i=some c) (h5:Q (.str ⟨#[c]⟩) H):Ax x y H Q
theorem aR:IxR X (Ay X.K):=by
 intro value slice pins s σ H x y v u Q I rx ry h hs
 obtain⟨p,xs,i,z,rfl,rfl,hq,he,q⟩:=h
 cases rx
 obtain⟨t,rfl⟩:=ry
 obtain⟨its,r,pl,hz⟩:=I.list hq
 obtain⟨j,h1,h2,h3,h4,h5⟩:=mE he
 obtain⟨w,ew,rw'⟩:=r.get h2
 have hl:=r.length
 have hn:=gH
 have fin:EP X pins σ Q w s:=⟨z,H,I,rw',q⟩
 by_cases h0:0<=i
 ·have hj:i.toNat=j:=by
   rw [seqIndex_of h0 h5]at h1
   exact Option.some.inj h1
  exact item_listR pl.isList h0 ‹1› (by rw [hj];simpa using ew) fin hs
 ·have hj:(i+(its.toArray.size:Int)).toNat=j:=by
   rw [seqIndex_neg ‹1› h4]at h1
   rw [List.size_toArray,<- hl]
   exact Option.some.inj h1
  exact subscriptTail_builtinR (x:=w) pl.isList.typeIs slot_list_getitem.lookup
   (wpAny_getItem_list_neg (Q:=λr s'=>r=w/\EP X pins σ Q r s') pl.isList ‹1› (by rw [List.size_toArray] <;> omega) ‹1› (by rw [hj];simpa using ew) ⟨rfl,fin⟩) hs
theorem bf:IxR X (Aw X.K):=by
 intro value slice pins s σ H x y v u Q I rx ry h hs
 obtain⟨p,xs,i,z,rfl,rfl,hq,he,q⟩:=h
 cases rx
 obtain⟨t,rfl⟩:=ry
 obtain⟨its,r,pl,hz⟩:=I.tuple hq
 obtain⟨j,h1,h2,h3,h4,h5⟩:=mE he
 obtain⟨w,ew,rw'⟩:=r.get h2
 have hl:=r.length
 have hn:=gH
 have fin:EP X pins σ Q w s:=⟨z,H,I,rw',q⟩
 exact subscriptTail_builtinR (x:=w) pl.typeIs slot_tuple_getitem.lookup
  (getItem_tuple (j:=j) (Q:=λr s'=>r=w/\EP X pins σ Q r s') pl ‹1› ‹1› (by rw [List.size_toArray,<- hl];exact h1) (by simpa using ew) ⟨rfl,fin⟩) hs
theorem vm:IxR X Ax:=by
 intro value slice pins s σ H x y v u Q I rx ry h hs
 obtain⟨z,i,c,rfl,rfl,hz,he,q⟩:=h
 obtain⟨t,rfl⟩:=rx
 obtain⟨t',rfl⟩:=ry
 obtain⟨j,h1,h2,h3,h4,h5⟩:=mE he
 have hl:z.cps.toList.length=z.length:=by simp [Str.length]
 rw [hl]at h1 h4 h5
 have hn:=gH
 exact tail_any (typeIs_str s z t) slot_str_getitem.lookup (getItem_str (c:=c) (by
  have e1:decide (i < -(2 ^ 63:Int))=false:=decide_eq_false ‹1›
  have e2:decide (i>=2 ^ 63)=false:=decide_eq_false ‹1›
  rw [e1,e2,Bool.or_false]) (by rw [h1];simpa using h2) ⟨.str ⟨#[c]⟩,H,I.tok _,⟨_,rfl⟩,q⟩) hs
theorem pi (its:List Value) (n j:Nat) (u:Value):Obj.mapSeq (·.setIfInBounds j u) { cls:=.type "list", data:=.seq its.toArray n }={ cls:=.type "list", data:=.seq (its.set j u).toArray n }:=by
 simp [Obj.mapSeq]
theorem Inv.lst {pins:List (Addr × Obj)}{σ:St}{H:Hp}{s:Shared}{p:Addr}{xs:List V} (I:Inv X pins σ H s) (h:H p=some (.lst xs)) :
  ∃(its:List Value) (n:Nat),aJ xs its/\s.heap.get? p=some { cls:=.type "list", data:=.seq its.toArray n }/\xs.length<=sizeLine:=by
 obtain⟨z,its,n,r,e⟩:=I.hok p _ h
 exact⟨its,n,r,e,z⟩
theorem Inv.lstUpd {pins:List (Addr × Obj)}{σ:St}{H:Hp}{s:Shared}{p:Addr}{xs ys:List V}{its its':List Value}{n n':Nat}{f:Obj->Obj} (I:Inv X pins σ H s) (h:H p=some (.lst xs))
  (ho:s.heap.get? p=some { cls:=.type "list", data:=.seq its.toArray n }) (hf:f { cls:=.type "list", data:=.seq its.toArray n }={ cls:=.type "list", data:=.seq its'.toArray n' }) (r:aJ ys its') (hz:ys.length<=sizeLine) (t:Nat) :
  Inv X pins σ (upd H p (.lst ys)) { s with heap:=s.heap.update p f,toks:=t }:=by
 have e:(s.heap.update p f).get? p=some { cls:=.type "list", data:=.seq its'.toArray n' }:=by
  rw [Heap.get?_update_self f ho (by rw [hf] <;> rfl),hf]
 refine I.write (x:=p) (e:=p) (by rw [h];trivial) (.inl rfl) (λb u hb q=>(Heap.get?_update_other _ _ (Ne.symm hb)).trans q) ⟨_,e⟩ ?_
 exact⟨hz,its',n',r,e⟩
noncomputable def Av:V->V->V->Hp->(Hp->Prop)->Prop:=λo i v H Q=>∃p xs k j,o=.ref p/\i=.int k/\H p=some (.lst xs)/\ixN xs.length k=some j/\Q (upd H p (.lst (xs.set j v)))
theorem gT:AT X Av:=by
 intro pins s σ H o i v ov iv u Q I ro ri rv h
 obtain⟨p,xs,k,j,rfl,rfl,hp,hj,q⟩:=h
 cases ro
 obtain⟨t,rfl⟩:=ri
 obtain⟨its,n,r,ho,hz⟩:=I.lst hp
 obtain⟨h1,h2,h3,h4⟩:=qE hj
 have hl:=r.length
 have hn:=gH
 have I':Inv X pins σ (upd H p (.lst (xs.set j v))) { s with heap:=s.heap.update p (Obj.mapSeq (·.setIfInBounds j u)) }:=
  I.lstUpd hp ho (pi its n j u) (r.set rv j) (by rw [List.length_set];exact hz) s.toks
 by_cases h0:0<=k
 ·have hk:k.toNat=j:=by
   rw [seqIndex_of h0 h4]at h1
   exact Option.some.inj h1
  exact PySem.W.ki_setAt ho h0 ‹1› (by rw [List.size_toArray,<- hl];exact h4) (by rw [hk];exact⟨_,I',q⟩)
 ·have hk:(k+(its.toArray.size:Int)).toNat=j:=by
   rw [seqIndex_neg ‹1› h3]at h1
   rw [List.size_toArray,<- hl]
   exact Option.some.inj h1
  exact PySem.W.ki_setBack ho ‹1› (by rw [List.size_toArray,<- hl];exact h3) ‹1› (by rw [hk];exact⟨_,I',q⟩)
theorem lQ (lo hi:Option Int) (n:Nat):(sliceBounds lo hi none n).1=((HT.sIx n 0 lo:Nat):Int)/\(sliceBounds lo hi none n).2.1=((HT.sIx n n hi:Nat):Int)/\(sliceBounds lo hi none n).2.2=1:=by
 refine⟨?_,?_,rfl⟩
 ·cases lo with
  | none=>simp [sliceBounds,HT.sIx]
  | some i=>
   simp only [sliceBounds,HT.sIx,Option.getD_none,show (1:Int) > 0 by decide,if_true]
   by_cases h:i < 0
   ·simp only [h,if_true] <;> omega
   ·simp only [h,if_false] <;> omega
 ·cases hi with
  | none=>simp [sliceBounds,HT.sIx]
  | some i=>
   simp only [sliceBounds,HT.sIx,Option.getD_none,show (1:Int) > 0 by decide,if_true]
   by_cases h:i < 0
   ·simp only [h,if_true] <;> omega
   ·simp only [h,if_false] <;> omega
theorem kh (its:List Value) (lo hi:Option Int):slicePick its.toArray lo hi none=((its.drop (HT.sIx its.length 0 lo)).take (HT.sIx its.length its.length hi - HT.sIx its.length 0 lo)).toArray:=by
 obtain⟨h1,h2,h3⟩:=lQ lo hi its.toArray.size
 unfold slicePick
 rw [h1,h2,h3]
 simp only [sliceRange_one,pick_run,List.size_toArray] <;> rfl
inductive Au (K:PySem.W.Frag) (x:V) (lo:Option Int) (hi:Option Int) (H:Hp) (Q:VK):Prop
 | mk (a xs) (h1:x=.ref a) (h2:SqL K H a xs) (h3:∀p,H p=none->Q (.ref p) (upd H p (.lst (cutV xs lo hi)))):Au K x lo hi H Q
theorem qo:SlR X (Au X.K):=by
 intro pins s σ H x v vl vu lo hi sl Q I rx hs pl pu h
 obtain⟨a,xs,rfl,hx,q⟩:=h
 cases rx
 obtain⟨its,r,ht,hz⟩:=I.list hx
 have hlen:=r.length
 refine⟨"list", _,slot_list_getitem.lookup,ht.isList.typeIs,?_⟩
 refine wpAny_getItem_list_slice ht.isList hs pl pu .none (by simp) ?_ (by rw [List.size_toArray] <;> omega)
 rw [kh,<- hlen]
 refine⟨.ref s.heap.objs.size,_,I.laid (t':=s.toks) (o:=.lst (cutV xs lo hi)) (λb ob q=>zH0 _ q) (Nat.le_refl _) ?_,rfl,q _ (I.hok.fresh (Nat.le_refl _))⟩
 exact⟨Nat.le_trans (fO xs lo hi) hz,_,0,(r.drop (HT.sIx xs.length 0 lo)).take (HT.sIx xs.length xs.length hi - HT.sIx xs.length 0 lo),Heap.get?_push_size _ rfl⟩
noncomputable def hX:V->Bool
 | .non=>true
 | .bl _=>true
 | .int _=>true
 | .str _=>true
 | _=>false
noncomputable def eqV:V->V->Bool
 | .non,.non=>true
 | .bl a,.bl b=>a == b
 | .bl a,.int b=>(if a then 1 else 0) == b
 | .int a,.bl b=>a == (if b then 1 else 0)
 | .int a,.int b=>a == b
 | .str a,.str b=>a == b
 | _,_=>false
theorem zF {A:Around}{s:Shared}{y x:V}{u v:Value} (ry:aP y u) (rx:aP x v) (fy:hX y=true) (fx:hX x=true):SeqAt.EqAt A s u v (eqV y x):=by
 cases y with
 | non=>
  cases ry
  cases x with
  | non=>cases rx;exact SeqAt.EqAt.same _
  | bl b=>cases rx;exact SeqAt.EqAt.none_bool b
  | int b=>obtain⟨t,rfl⟩:=rx;exact SeqAt.EqAt.none_int b t
  | str b=>obtain⟨t,rfl⟩:=rx;exact SeqAt.EqAt.none_str b t
  | _=>exact absurd (show false=true from fx) Bool.false_ne_true
 | bl a=>
  cases ry
  cases x with
  | non=>cases rx;exact SeqAt.EqAt.bool_none a
  | bl b=>cases rx;exact SeqAt.EqAt.bool_bool a b
  | int b=>obtain⟨t,rfl⟩:=rx;exact SeqAt.EqAt.bool_int a b t
  | str b=>obtain⟨t,rfl⟩:=rx;exact SeqAt.EqAt.bool_str a b t
  | _=>exact absurd (show false=true from fx) Bool.false_ne_true
 | int a=>
  obtain⟨t',rfl⟩:=ry
  cases x with
  | non=>cases rx;exact SeqAt.EqAt.int_none a t'
  | bl b=>cases rx;exact SeqAt.EqAt.int_bool a t' b
  | int b=>obtain⟨t,rfl⟩:=rx;exact SeqAt.EqAt.int_int a t' b t
  | str b=>obtain⟨t,rfl⟩:=rx;exact SeqAt.EqAt.int_str a t' b t
  | _=>exact absurd (show false=true from fx) Bool.false_ne_true
 | str a=>
  obtain⟨t',rfl⟩:=ry
  cases x with
  | non=>cases rx;exact SeqAt.EqAt.str_none a t'
  | bl b=>cases rx;exact SeqAt.EqAt.str_bool a t' b
  | int b=>obtain⟨t,rfl⟩:=rx;exact SeqAt.EqAt.str_int a t' b t
  | str b=>obtain⟨t,rfl⟩:=rx;exact SeqAt.EqAt.str_str a t' b t
  | _=>exact absurd (show false=true from fx) Bool.false_ne_true
 | _=>exact absurd (show false=true from fy) Bool.false_ne_true
noncomputable def eqU (x:V) (u:Value):Bool:=match u with
 | .none=>eqV .non x
 | .bool b=>eqV (.bl b) x
 | .int i _=>eqV (.int i) x
 | .str z _=>eqV (.str z) x
 | _=>false
theorem vE {x y:V}{u:Value} (r:aP y u) (f:hX y=true):eqU x u=eqV y x:=by
 cases y with
 | non=>cases r;rfl
 | bl b=>cases r;rfl
 | int i=>obtain⟨t,rfl⟩:=r;rfl
 | str z=>obtain⟨t,rfl⟩:=r;rfl
 | _=>exact absurd (show false=true from f) Bool.false_ne_true
theorem mF {x:V}:∀{xs:List V}{us:List Value},aJ xs us->xs.all hX=true->us.any (eqU x)=xs.any λy=>eqV y x
 | _,_,.nil,_=>rfl
 | y::xs,u::us,.cons r t,f=>by
  rw [List.all_cons,Bool.and_eq_true]at f
  rw [List.any_cons,List.any_cons,vE r f.1,mF t f.2]
theorem jH {A:Around}{s:Shared}{x:V}{v:Value} (rx:aP x v) (fx:hX x=true):∀{xs:List V}{us:List Value},aJ xs us->xs.all hX=true->∀u∈us,SeqAt.EqAt A s u v (eqU x u)
 | _,_,.nil,_=>λu hu=>by cases hu
 | y::xs,u::us,.cons r t,f=>λu' hu=>by
  rw [List.all_cons,Bool.and_eq_true]at f
  rcases List.mem_cons.mp hu with rfl | hu
  ·rw [vE r f.1];exact zF r rx f.1 fx
  ·exact jH rx fx t f.2 u' hu
noncomputable def inV (x:V) (xs:List V):Bool:=xs.any λy=>eqV y x
inductive rIn (K:PySem.W.Frag) (neg:Bool) (x:V) (y:V) (H:Hp) (Q:VK):Prop
 | mk (p xs) (h1:y=.ref p) (h2:(SqL K H p xs\/SqT K H p xs)) (h3:hX x=true) (h4:xs.all hX=true) (h5:Q (.bl (if neg then !inV x xs else inV x xs)) H):rIn K neg x y H Q
theorem mi:OpR X (compareOp .NotIn) (rIn X.K true):=by
 intro pins s σ H x y v u Q I rx ry h
 obtain⟨p,xs,rfl,hq,fx,fs,q⟩:=h
 cases ry
 rcases hq with hq | hq
 ·obtain⟨its,r,pl,hz⟩:=I.list hq
  refine SeqAt.notIn_listAt (eqU x) pl.isList (λw hw=>jH rx fx r fs w (by simpa using hw)) ⟨.bl _,H,I,rfl,?_⟩
  rw [show its.toArray.any (eqU x)=its.any (eqU x) by simp,mF r fs]
  exact q
 ·obtain⟨its,r,pl,hz⟩:=I.tuple hq
  refine SeqAt.notIn_tupleAt (eqU x) pl (λw hw=>jH rx fx r fs w (by simpa using hw)) ⟨.bl _,H,I,rfl,?_⟩
  rw [show its.toArray.any (eqU x)=its.any (eqU x) by simp,mF r fs]
  exact q
theorem aV:eF X (.builtin "len") (λxs H Q=>∃p ys,xs=[.ref p]/\(SqL X.K H p ys\/SqT X.K H p ys)/\Q (.int ys.length) H):=by
 intro pins s σ H xs us Q I r h
 obtain⟨p,ys,rfl,hq,q⟩:=h
 obtain⟨u,rfl,rx⟩:=gP r
 cases rx
 have hn:=gH
 rcases hq with hq | hq
 ·obtain⟨its,r',pl,hz⟩:=I.list hq
  have hlen:=r'.length
  exact Calls.call_len_list pl.isList (by simp only [List.size_toArray] <;> omega) ⟨.int ys.length,H,I.tok _,⟨s.toks+1,by rw [List.size_toArray,hlen]⟩,q⟩
 ·obtain⟨its,r',pl,hz⟩:=I.tuple hq
  have hlen:=r'.length
  exact len_tuple pl (by simp only [List.size_toArray] <;> omega) ⟨.int ys.length,H,I.tok _,⟨s.toks+1,by rw [List.size_toArray,hlen]⟩,q⟩
theorem i9:eF X (.builtin "len") (λxs H Q=>∃z,xs=[.str z]/\z.length<=sizeLine/\Q (.int z.length) H):=by
 intro pins s σ H xs us Q I r h
 obtain⟨z,rfl,hz,q⟩:=h
 obtain⟨u,rfl,t,rfl⟩:=gP r
 have hn:=gH
 exact len_str ‹1› ⟨.int z.length,H,I.tok _,⟨_,rfl⟩,q⟩
theorem cU:eF X (.type "list") (λxs H Q=>∃p ys,xs=[.ref p]/\(SqL X.K H p ys\/SqT X.K H p ys)/\∀l,H l=none->Q (.ref l) (upd H l (.lst ys))):=by
 intro pins s σ H xs us Q I r h
 obtain⟨p,ys,rfl,hq,q⟩:=h
 obtain⟨u,rfl,rx⟩:=gP r
 cases rx
 have fin:∀(its:List Value),aJ ys its->ys.length<=sizeLine->∀(h':Heap) (c':Nat),(∀b o',s.heap.get? b=some o'->h'.get? b=some o')->
   h'.get? s.heap.objs.size=some { cls:=.type "list", dict:=none,data:=.seq its.toArray c',slots:=#[] }->EP X pins σ Q (.ref s.heap.objs.size) { s with heap:=h' }:=λits r' hz h' c' kp e=>
  ⟨.ref s.heap.objs.size,_,I.laid (t':=s.toks) kp (Nat.le_refl _) (show br X.prog X.w _ h' _ (.lst ys) from ⟨hz,its,c',r',e⟩),rfl,q _ (I.hok.fresh (Nat.le_refl _))⟩
 rcases hq with hq | hq
 ·obtain⟨its,r',pl,hz⟩:=I.list hq
  have hlen:=r'.length
  obtain⟨o,ho,hc,n,hd⟩:=pl.isList
  exact call_list_seq p (.inl rfl) ho hc hd (λh' c' kp e=>fin its r' hz h' c' kp e) (by simp only [List.size_toArray] <;> omega)
 ·obtain⟨its,r',pl,hz⟩:=I.tuple hq
  have hlen:=r'.length
  obtain⟨o,ho,hc,n,hd⟩:=pl
  exact call_list_seq p (.inr rfl) ho hc hd (λh' c' kp e=>fin its r' hz h' c' kp e) (by simp only [List.size_toArray] <;> omega)
def tyV (K:PySem.W.Frag) (T:String) (x:V) (H:Hp):Prop:=match x with
 | .str _=>T = "str"
 | .int _=>T = "int"
 | .ref p=>(T = "list"/\∃xs,SqL K H p xs)\/(T = "tuple"/\∃o,K.lookup p=some o/\o.cls=.type "tuple"/\o.dict=none)\/
   (T = "dict"/\((∃kvs,H p=some (.dK kvs))\/∃kvs,H p=some (.dT kvs)))\/(T = "set"/\∃S n,H p=some (.set S n))
 | _=>False
theorem sU {pins:List (Addr × Obj)}{σ:St}{H:Hp}{s:Shared}{T:String}{x:V}{v:Value} (I:Inv X pins σ H s) (r:aP x v) (ty:tyV X.K T x H) :
  s.TypeIs v T/\∀a,v=.ref a->∃ob,s.heap.get? a=some ob/\ob.dict=none:=by
 cases x with
 | str z=>
  obtain⟨t,rfl⟩:=r
  cases (show T = "str" from ty)
  exact⟨typeIs_str s z t,λ_ e=>nomatch e⟩
 | int i=>
  obtain⟨t,rfl⟩:=r
  cases (show T = "int" from ty)
  exact⟨typeIs_int s i t,λ_ e=>nomatch e⟩
 | ref p=>
  cases r
  rcases ty with⟨rfl,xs,hq⟩ | ⟨rfl,o,hk,hc,hd⟩ | ⟨rfl,hk⟩ | ⟨rfl,S,n,hk⟩
  ·obtain⟨its,_,pl,_⟩:=I.list hq
   refine⟨pl.isList.typeIs,λa e=>?_⟩
   cases e
   obtain⟨o,n,e,c,hd,_⟩:=pl
   exact⟨o,e,hd⟩
  ·refine⟨⟨o,I.kIn p o hk,hc⟩,λa e=>?_⟩
   cases e
   exact⟨o,I.kIn _ o hk,hd⟩
  ·have z:∃o,s.heap.get? p=some o/\o.ExactDict:=by
    rcases hk with⟨kvs,hk⟩ | ⟨kvs,hk⟩
    ·obtain⟨_,_,_,_,o,_,_,e,ex,_⟩:=I.hok p _ hk
     exact⟨o,e,ex⟩
    ·obtain⟨_,_,_,_,o,_,_,e,ex,_⟩:=I.hok p _ hk
     exact⟨o,e,ex⟩
   obtain⟨o,e,ex⟩:=z
   refine⟨⟨o,e,ex.1⟩,λa e2=>?_⟩
   cases e2
   exact⟨o,e,ex.2.1⟩
  ·obtain⟨o,_,_,_,e,ex,_⟩:=I.hok p _ hk
   refine⟨⟨o,e,ex.1⟩,λa e2=>?_⟩
   cases e2
   exact⟨o,e,ex.2.1⟩
 | _=>exact False.elim ty
noncomputable def B3 (K:PySem.W.Frag) (T:String) (r:V->List V->Hp->VK->Prop) (to:TE):TE:=λσ H Q=>to σ H λx H1=>tyV K T x H1/\r x [] H1 Q
noncomputable def tBM (K:PySem.W.Frag) (T:String) (r:V->List V->Hp->VK->Prop) (to:TE) (t:TA):TE:=λσ H Q=>to σ H λx H1=>tyV K T x H1/\t σ H1 λxs H2=>r x xs H2 Q
variable {o e:Expr}{es:List Expr}{to:TE}{t:TA}{name:Str}{apos cpos:Pos}{T id:String}{r:V->List V->Hp->VK->Prop}
theorem yX (pa:PlainAttrs T) (slot:Slot T name id) (hty:typeOf (.builtin id)=pure (.type "method_descriptor")) (hm:MtR X id r) (ho:PE X o to)
  (hbase:attributeBase o name X.env (eval o X.env)=eval o X.env:=by rfl) (hline:(apos.endLine == cpos.line)=true:=by rfl):PE X (.Call (.Attribute o name apos) [] [] cpos) (B3 X.K T r to):=by
 intro pins s σ H Q I h
 refine wpAny_Call_method0_late hbase hline (thn (ho pins s σ H _ I h) λv s1 ⟨x,H1,I1,r1,ty,q1⟩=>?_)
 obtain⟨h1,h2⟩:=sU I1 r1 ty
 exact⟨T,id,pa,slot,hty,h1,h2,Calls.callWith_builtin rfl (PySem.evalArgs_none (hm pins s1 σ H1 x [] v [] Q I1 r1 .nil q1))⟩
theorem cT (pa:PlainAttrs T) (slot:Slot T name id) (hty:typeOf (.builtin id)=pure (.type "method_descriptor")) (hm:MtR X id r) (ho:PE X o to) (ha:PA X (e::es) t)
  (hbase:attributeBase o name X.env (eval o X.env)=eval o X.env:=by rfl)
  (hfew:((backTo cpos (starEach (e::es) X.env)).all (λx=>!x.1) && (backToKw cpos (keywordEach [] X.env)).all (λx=>x.1.isSome)
   && decide ((e::es).length+([]:List Keyword).length+(if ([]:List Keyword).isEmpty then 0 else 1) < 30))=true:=by rfl)
  (hline:(apos.endLine == cpos.line)=true:=by rfl) (hs:starEach (e::es) X.env=(false,eval e X.env)::starEach es X.env:=by rfl) (hplain:(backTo cpos (starEach es X.env)).any (·.1)=false:=by rfl) :
  PE X (.Call (.Attribute o name apos) (e::es) [] cpos) (tBM X.K T r to t):=by
 intro pins s σ H Q I h
 refine wpAny_Call_method_late hbase hfew hline rfl (thn (ho pins s σ H _ I h) λv s1 ⟨x,H1,I1,r1,ty,q1⟩=>?_)
 obtain⟨h1,h2⟩:=sU I1 r1 ty
 refine⟨T,id,pa,slot,hty,h1,h2,?_⟩
 have hA:=ha cpos pins s1 σ H1 _ I1 q1
 rw [hs]at hA ⊢
 refine Calls.callWith_builtin (by show (false || (backTo cpos (starEach es X.env)).any (·.1))=false;rw [hplain] <;> rfl) (Calls.evalArgs_plain ?_)
 exact thn hA λus s2 ⟨vs,H2,I2,r2,q2⟩=>hm pins s2 σ H2 x vs v us Q I2 r1 r2 q2
end
def MtM (X:Cx) (id:String) (r:V->List V->Hp->VK->Prop):Prop:=
 ∀(pins:List (Addr × Obj)) (s:Shared) (σ:St) (H:Hp) (x:V) (xs:List V) (v:Value) (us:List Value) (Q:VK),Inv X pins σ H s->aP x v->aJ xs us->r x xs H Q->
  wpAny (model X.prog X.w) X.A (call (.builtin id) (v::us)) (EP X pins σ Q) X.xe s
theorem aJ.one:∀{x:V}{us:List Value},aJ [x] us->∃u,us=[u]/\aP x u
 | _,_,.cons r .nil=>⟨_,rfl,r⟩
theorem aJ.zero:∀{us:List Value},aJ [] us->us=[]
 | _,.nil=>rfl
theorem aJ.rep {xs:List V}{us:List Value} (h:aJ xs us):∀k:Nat,aJ (List.replicate k xs).flatten (List.replicate k us).flatten
 | 0=>.nil
 | k+1=>by
  rw [List.replicate_succ,List.replicate_succ,List.flatten_cons,List.flatten_cons]
  exact aJ.append h (aJ.rep h k)
theorem lb (its:List Value):∀(k:Nat) (acc:List Value),
  List.foldl (λx1 x2=>x1++x2) acc.toArray (List.replicate k its.toArray)=(acc++(List.replicate k its).flatten).toArray
 | 0,acc=>by simp
 | k+1,acc=>by
  have e:acc.toArray++its.toArray=(acc++its).toArray:=by simp
  have e2:(acc++its)++(List.replicate k its).flatten=acc++(List.replicate (k+1) its).flatten:=by
   rw [List.replicate_succ,List.flatten_cons,List.append_assoc]
  rw [<- e2,<- lb its k (acc++its),<- e,List.replicate_succ,List.foldl_cons]
section
variable {X:Cx}{pins:List (Addr × Obj)}{σ:St}{H:Hp}{s:Shared}{l b:Addr}{xs ys zs:List V}
theorem Inv.lset {its its':List Value}{n:Nat}{f:Array Value->Array Value}{t':Nat} (I:Inv X pins σ H s) (hH:H l=some (.lst xs))
  (e:s.heap.get? l=some { cls:=.type "list", data:=.seq its.toArray n }) (hf:f its.toArray=its'.toArray) (hv:aJ ys its') (hz:ys.length<=sizeLine) :
  Inv X pins σ (upd H l (.lst ys)) { s with heap:=s.heap.update l (Obj.mapSeq f),toks:=t' }:=by
 have q:=PySem.IsL.update e f
 rw [hf]at q
 refine I.write (x:=l) (e:=l) (by rw [hH];exact trivial) (.inl rfl) (λb' u hb hu=>(Heap.get?_update_other s.heap (Obj.mapSeq f) (Ne.symm hb)).trans hu) ⟨_,q⟩ ?_
 exact⟨hz,its',_,hv,q⟩
theorem Inv.lnew {its:List Value}{t':Nat} (I:Inv X pins σ H s) (hv:aJ ys its) (hz:ys.length<=sizeLine) :
  Inv X pins σ (upd H s.heap.objs.size (.lst ys)) { s with heap:=s.heap.push { cls:=.type "list", data:=.seq its.toArray },toks:=t' }:=
 I.laid (λ_ _ q=>zH0 _ q) (Nat.le_refl _) ⟨hz,its,0,hv,Heap.get?_push_size _ rfl⟩
theorem Inv.fresh (I:Inv X pins σ H s):H s.heap.objs.size=none:=I.hok.fresh (Nat.le_refl _)
theorem Inv.lstM (I:Inv X pins σ H s) (hH:H l=some (.lst xs)):xs.length<=sizeLine/\∃(its:List Value) (n:Nat),aJ xs its/\xs.length=its.length/\s.heap.get? l=some { cls:=.type "list", data:=.seq its.toArray n }:=by
 obtain⟨z,its,n,r,e⟩:=I.hok l _ hH
 exact⟨z,its,n,r,r.length,e⟩
theorem jE {n:Nat} (h:n<=sizeLine):Builtin.List.listTooLong n=false:=by
 unfold Builtin.List.listTooLong
 exact decide_eq_false ‹1›
end
section
variable {X:Cx}
inductive md (x:V) (vs:List V) (H:Hp) (Q:VK):Prop
 | mk (l xs y) (h1:x=.ref l) (h2:vs=[y]) (h3:H l=some (.lst xs)) (h4:xs.length < sizeLine) (h5:Q .non (upd H l (.lst (xs++[y])))):md x vs H Q
theorem b8:MtM X "list.append" md:=by
 intro pins s σ H x vs v us Q I rx rv h
 obtain⟨l,xs,y,rfl,rfl,hH,hz,q⟩:=h
 cases rx
 obtain⟨u,rfl,ru⟩:=rv.one
 obtain⟨z,its,n,r,hl,e⟩:=I.lstM hH
 refine call_meets F.slot_list_append ⟨_,e,rfl⟩ F.entry_list_append (F.args_list_append_2 _ _) (PySem.list_append l its.toArray n u (by rw [List.size_toArray];omega)) ⟨e,?_⟩
 refine⟨.non,_,I.lset (its':=its++[u]) hH e (by simp) (r.append (.cons ru .nil)) ?_,rfl,q⟩
 rw [List.length_append,List.length_singleton]
 omega
inductive uk (x:V) (vs:List V) (H:Hp) (Q:VK):Prop
 | mk (l xs) (h1:x=.ref l) (h2:vs=[]) (h3:H l=some (.lst xs)) (h4:Q .non (upd H l (.lst []))):uk x vs H Q
theorem uZ:MtM X "list.clear" uk:=by
 intro pins s σ H x vs v us Q I rx rv h
 obtain⟨l,xs,rfl,rfl,hH,q⟩:=h
 cases rx
 have hus:=rv.zero
 subst hus
 obtain⟨z,its,n,r,hl,e⟩:=I.lstM hH
 refine call_meets F.slot_list_clear ⟨_,e,rfl⟩ F.entry_list_clear (F.args_list_clear_1 _) (AutoSeq1.list_clear_list_0 l its.toArray n (by rw [List.size_toArray];omega)) ⟨e,?_⟩
 exact⟨.non,_,I.lset (its':=[]) (ys:=[]) hH e rfl .nil (Nat.zero_le _),rfl,q⟩
inductive AA (x:V) (y:V) (H:Hp) (Q:VK):Prop
 | mk (l b xs zs) (h1:x=.ref l) (h2:y=.ref b) (h3:H l=some (.lst xs)) (h4:H b=some (.lst zs)) (h5:xs.length+zs.length<=sizeLine) (h6:∀p,H p=none->Q (.ref p) (upd H p (.lst (xs++zs)))):AA x y H Q
theorem p6:OpR X (binaryOp .Add) AA:=by
 intro pins s σ H x y v u Q I rx ry h
 obtain⟨l,b,xs,zs,rfl,rfl,hH,hB,hz,q⟩:=h
 cases rx
 cases ry
 obtain⟨z,its,n,r,hl,e⟩:=I.lstM hH
 obtain⟨z2,its2,n2,r2,hl2,e2⟩:=I.lstM hB
 refine PySem.P.add_list e e2 ?_ (by rw [List.size_toArray,List.size_toArray];omega)
 have ea:its.toArray++its2.toArray=(its++its2).toArray:=by simp
 rw [ea]
 exact⟨.ref _,_,I.lnew (t':=s.toks) (r.append r2) (by rw [List.length_append];omega),rfl,q _ I.fresh⟩
noncomputable def B6:R2:=λx y H Q=>∃l k xs,x=.ref l/\y=.int k/\H l=some (.lst xs)/\-(2 ^ 63)<=k/\k < 2 ^ 63/\xs.length * k.toNat<=sizeLine/\
 ∀p,H p=none->Q (.ref p) (upd H p (.lst (List.replicate k.toNat xs).flatten))
theorem qB {α:Type} (xs:List α) (k:Nat):(List.replicate k xs).flatten.length=k * xs.length:=by
 induction k with
 | zero=>simp
 | succ k ih=>rw [List.replicate_succ,List.flatten_cons,List.length_append,ih,Nat.succ_mul,Nat.add_comm]
theorem uG:OpR X (binaryOp .Mult) B6:=by
 intro pins s σ H x y v u Q I rx ry h
 obtain⟨l,k,xs,rfl,rfl,hH,h1,h2,hz,q⟩:=h
 cases rx
 obtain⟨t,rfl⟩:=ry
 obtain⟨z,its,n,r,hl,e⟩:=I.lstM hH
 have hlen:its.toArray.size * k.toNat<=sizeLine:=by rw [List.size_toArray,<- hl];exact hz
 have hcap:¬its.toArray.size * k.toNat > (2 ^ 63 - 1) / 8:=by
  have:(sizeLine:Nat)<=(2 ^ 63 - 1) / 8:=by decide
  omega
 have hfit:¬(!Builtin.List.listFitsIndex k)=true:=by
  rw [fitsIndex_both h1 h2]
  exact Bool.false_ne_true
 have hlong:¬Builtin.List.listTooLong (its.toArray.size * k.toNat)=true:=by
  rw [jE hlen]
  exact Bool.false_ne_true
 have hnew:List.foldl (λx1 x2=>x1++x2) #[] (List.replicate (if its.toArray.isEmpty=true then 0 else k.toNat) its.toArray)=(List.replicate k.toNat its).flatten.toArray:=by
  have f0:∀m:Nat,List.foldl (λx1 x2=>x1++x2) #[] (List.replicate m its.toArray)=(List.replicate m its).flatten.toArray:=λm=>by
   have:=lb its m []
   rw [List.nil_append]at this
   exact this
  rw [f0]
  cases its with
  | nil=>simp
  | cons a r'=>rw [if_neg (by simp)]
 refine wpAny_binaryOp_repeat_ref (T:="list") (U:="int") (by decide) ⟨_,e,rfl⟩ (λs'=>typeIs_int s' k t) noFill_list_mul F.fills_int_mul F.slot_int_rmul repeat_list F.slot_int_index.lookup
  (call_meets F.slot_int_rmul (typeIs_int s k t) F.entry_int_rmul (F.args_int_rmul_2 _ _) (int___rmul___int_list k t l its.toArray n)
   ⟨e,rfl,⟨_,e,rfl⟩,call_meets F.slot_list_mul ⟨_,e,rfl⟩ F.entry_list_mul (F.args_list_mul_2 _ _) (AutoListH.list___mul___list_int_3 l its.toArray n k t hfit hcap hlong) ⟨e,?_⟩⟩)
 rw [hnew]
 exact⟨.ref _,_,I.lnew (t':=s.toks) (r.rep k.toNat) (by rw [qB,Nat.mul_comm];exact hz),rfl,q _ I.fresh⟩
end
section
variable {prog:Program}{w:World}{A:Around}{E:Value->Shared->Prop}{s:Shared}
theorem r6 (its its2:List Value) (a c:Nat):its.toArray.extract 0 a++its2.toArray++its.toArray.extract c its.toArray.size=(its.take a++its2++its.drop c).toArray:=by
 apply Array.toList_inj.mp
 first
  | (simp;exact List.take_of_length_le (by simp))
  | simp [List.take_of_length_le]
  | simp
theorem pJ {a c n:Nat} (hac:a<=c) (hc:c<=n):sliceBounds (some (a:Int)) (some (c:Int)) none n=((a:Int),(c:Int),1):=by
 simp only [sliceBounds,Option.getD_none]
 have h1:¬((a:Int) < 0):=by omega
 have h2:¬((c:Int) < 0):=by omega
 simp only [h1,h2,if_false,show (1:Int) > 0 by decide,if_true]
 congr 1
 ·omega
 ·congr 1;omega
set_option maxRecDepth 100000 in
theorem ki {l b sl:Addr}{items new:Array Value}{n n2:Nat}{vl vu:Value}{a c:Nat}{Q:Unit->Shared->Prop}
  (e:s.heap.get? l=some { cls:=.type "list", data:=.seq items n }) (e2:s.heap.get? b=some { cls:=.type "list", data:=.seq new n2 }) (hne:l≠b)
  (hs:s.heap.IsSliceOf sl vl vu .none) (pl:IsPart vl (some (a:Int))) (pu:IsPart vu (some (c:Int))) (hac:a<=c) (hc:c<=items.size)
  (hsz:items.size+new.size<=sizeLine) (h:Q () { s with heap:=s.heap.update l (Obj.mapSeq λxs=>xs.extract 0 a++new++xs.extract c xs.size) }) :
  wpAny (model prog w) A (setItem (.ref l) (.ref sl) (.ref b)) Q E s:=by
 have hl:s.heap.IsList l items:=PySem.IsL.isList e
 have hb:s.heap.IsList b new:=PySem.IsL.isList e2
 obtain⟨os,hos,hcs,hds⟩:=id hs
 have hTs:s.TypeIs (.ref sl) "slice":=⟨os,hos,hcs⟩
 have hstep:¬((rawPart none == rawInt 0)=true):=Bool.false_ne_true
 have hsame:Builtin.List.listSameRef (.ref l) (.ref b)=false:=by
  unfold Builtin.List.listSameRef
  exact beq_eq_false_iff_ne.mpr hne
 have hmax:(max (a:Int) (c:Int)).toNat=c:=by omega
 have hz':((λxs:Array Value=>xs.extract 0 a++new++xs.extract c xs.size) items).size<=sizeLine+1:=by
  simp only [Array.size_append,Array.size_extract]
  omega
 unfold setItem
 try with_reducible refine wpAny_holding ?_
 first | refine zB0 (zP0 ?_) | skip
 refine zB0 (wpAny_sequenceKey hl.typeIs (by decide) ?_)
 refine zB0 (wpAny_callSpecial?_slot (name:=‹"__setitem__"›) hl.typeIs slot_list_setitem
  (wpAny_call_entry slot_list_setitem hl.typeIs entry_list_setitem ?_ (args_list_setitem _ _ _)))
 show wpAny _ _ (Builtin.List.listSubscript? (.ref sl) >>= _) _ _ s
 refine zB0 ?_
 unfold Builtin.List.listSubscript?
 refine zB0 (wpAny_specialOf hTs slice_no_index ?_)
 simp only [Option.isNone_none,if_true]
 refine zP0 ?_
 show wpAny _ _ (typeOf (.ref sl) >>= _) _ _ s
 refine zB0 (wpAny_typeOf hTs ?_)
 first
  | rw [if_neg (by decide)]
  | refine PySem.W.KFB.if_not (by decide) ?_
 rw [listSliceParts_eq]
 refine zB0 (zB0 (wpAny_field hos hds (x:=.none) rfl (zB0 (wpAny_listPart .none ?_))))
 rw [if_neg hstep]
 refine zB0 (wpAny_field hos hds (x:=vl) rfl (zB0 (wpAny_listPart pl ?_)))
 refine zB0 (wpAny_field hos hds (x:=vu) rfl (zB0 (wpAny_listPart pu (zP0 ?_))))
 first
  | simp only [hsame,Bool.false_eq_true,if_false]
  | refine PySem.W.KFB.if_not hsame ?_
  | (dsimp only;rw [if_neg (by rw [hsame];exact Bool.false_ne_true)])
 refine zB0 (m:=Builtin.List.listAllItems (.ref b) "must assign iterable to extended slice") ?_
 unfold Builtin.List.listAllItems
 refine zB0 (wpAny_typeOf hb.typeIs ?_)
 first
  | refine PySem.W.KFB.if_so (by decide) ?_
  | rw [if_pos (by decide)]
  | simp only [beq_self_eq_true,Bool.true_or,if_true]
 unfold Builtin.List.listItems
 refine zB0 (wpAny_seqItems e2 rfl (zP0 ?_))
 refine zB0 (zB0 (wpAny_seqItems e rfl (zP0 ?_)))
 refine zB0 (wpAny_of_eq ((sliceIndices_raw (some (a:Int)) (some (c:Int)) none items.size (by simp)).trans (congrArg (pure:Int × Int × Int->Sem (Int × Int × Int)) (pJ hac hc))) ?_)
 show wpAny _ _ (if ((1:Int) == 1)=true then _ else _) _ _ s
 rw [if_pos (by decide)]
 refine zB0 (wpAny_rule ?_)
 first
  | simp only [jE hsz,Bool.false_eq_true,if_false]
  | refine PySem.W.KFB.if_not (jE hsz) ?_
 first | refine zB0 (zP0 ?_) | skip
 show wpAny _ _ (updateSeq l (λxs=>xs.extract 0 ((a:Int)).toNat++new++xs.extract (max (a:Int) (c:Int)).toNat xs.size) >>= _) _ _ s
 rw [hmax,Int.toNat_natCast]
 refine zB0 (wpAny_updateSeq (hz:=Nat.le_trans (Nat.le_add_right _ _) hsz) (_hz':=hz') e rfl ?_)
 refine zB0 (wpAny_letGo ?_)
 first
  | exact zB0 (zP0 (zP0 ⟨.none,rfl,zP0 h⟩))
  | exact zP0 ⟨.none,rfl,zP0 h⟩
end
section
variable {X:Cx}
theorem rh {pins:List (Addr × Obj)}{s:Shared}{σ:St}{H:Hp}{l b sl:Addr}{xs ys:List V}{a c:Int}{vl vu:Value}{Q:Unit->Shared->Prop} (I:Inv X pins σ H s)
  (hH:H l=some (.lst xs)) (hB:H b=some (.lst ys)) (hne:l≠b) (hs:s.heap.IsSliceOf sl vl vu .none) (ra:aP (.int a) vl) (rc:aP (.int c) vu) (h0:0<=a) (hac:a<=c) (hc:c<=xs.length)
  (hz:xs.length+ys.length<=sizeLine) (h:∀s',Inv X pins σ (upd H l (.lst (xs.take a.toNat++ys++xs.drop c.toNat))) s'->Q () s') :
  wpAny (model X.prog X.w) X.A (setItem (.ref l) (.ref sl) (.ref b)) Q X.xe s:=by
 obtain⟨ta,rfl⟩:=ra
 obtain⟨tc,rfl⟩:=rc
 obtain⟨z,its,n,r,hl,e⟩:=I.lstM hH
 obtain⟨z2,its2,n2,r2,hl2,e2⟩:=I.lstM hB
 obtain⟨a',rfl⟩:=Int.eq_ofNat_of_zero_le h0
 obtain⟨c',rfl⟩:=Int.eq_ofNat_of_zero_le (Int.le_trans h0 hac)
 simp only [Int.toNat_natCast]at h
 refine ki (a:=a') (c:=c') e e2 hne hs (.int _ _) (.int _ _) ‹1› (by rw [List.size_toArray];omega) (by rw [List.size_toArray,List.size_toArray];omega) (h _ ?_)
 refine I.lset (its':=its.take a'++its2++its.drop c') (t':=s.toks) hH e ?_ (aJ.append (aJ.append (r.take _) r2) (r.drop _)) ?_
 ·exact r6 its its2 a' c'
 ·rw [List.length_append,List.length_append,List.length_take,List.length_drop]
  omega
end
section
variable {κ:Type} [DecidableEq κ]
noncomputable def valV (kvs:List (κ × V)) (k:κ):Option V:=(kvs.find? λkv=>decide (kv.1=k)).map (·.2)
noncomputable def cF (kvs:List (κ × V)) (k:κ) (v:V):List (κ × V):=
 if (kvs.any λkv=>decide (kv.1=k))=true then kvs.map (λkv=>if kv.1=k then (kv.1,v) else kv) else kvs++[(k,v)]
theorem ck {p:κ × V}{r:List (κ × V)}{k:κ} (e:p.1=k):valV (p::r) k=some p.2:=by simp [valV,List.find?_cons,e]
theorem cm {p:κ × V}{r:List (κ × V)}{k:κ} (e:¬p.1=k):valV (p::r) k=valV r k:=by simp [valV,List.find?_cons,e]
theorem fq (k:κ):∀kvs:List (κ × V),(kvs.any λkv=>decide (kv.1=k))=(valV kvs k).isSome
 | []=>rfl
 | p::r=>by
  rw [List.any_cons]
  by_cases e:p.1=k
  ·simp only [ck e,decide_eq_true e,Bool.true_or,Option.isSome_some]
  ·rw [cm e,decide_eq_false e,Bool.false_or];exact fq k r
theorem mL (k j:κ) (y:V):∀kvs:List (κ × V),valV (kvs.map λkv=>if kv.1=k then (kv.1,y) else kv) j=(valV kvs j).map λx=>if j=k then y else x
 | []=>rfl
 | p::r=>by
  have ih:=mL k j y r
  rw [List.map_cons]
  by_cases h:p.1=k
  ·rw [if_pos h]
   by_cases e:p.1=j
   ·rw [ck (p:=(p.1,y)) e,ck e,Option.map_some,if_pos (e.symm.trans h)]
   ·rw [cm (p:=(p.1,y)) e,cm e,ih]
  ·rw [if_neg h]
   by_cases e:p.1=j
   ·rw [ck (p:=p) e,ck e,Option.map_some,if_neg (λz=>h (e.trans z))]
   ·rw [cm (p:=p) e,cm e,ih]
theorem kE (k j:κ) (y:V):∀kvs:List (κ × V),valV kvs k=none->valV (kvs++[(k,y)]) j=if j=k then some y else valV kvs j
 | [],_=>by
  by_cases e:k=j
  ·rw [if_pos e.symm];exact ck (p:=(k,y)) e
  ·rw [if_neg (λz=>e z.symm)];exact cm (p:=(k,y)) e
 | p::r,hn=>by
  rw [List.cons_append]
  have hk:¬p.1=k:=λz=>by rw [ck z]at hn;cases hn
  rw [cm hk]at hn
  have ih:=kE k j y r hn
  by_cases e:p.1=j
  ·rw [ck e,ck e,if_neg (λz=>hk (e.trans z))]
  ·rw [cm e,cm e,ih]
theorem fo (kvs:List (κ × V)) (k j:κ) (y:V):valV (cF kvs k y) j=if j=k then some y else valV kvs j:=by
 unfold cF
 by_cases a:(kvs.any λkv=>decide (kv.1=k))=true
 ·rw [if_pos a,mL]
  rw [fq]at a
  by_cases e:j=k
  ·obtain⟨x,hx⟩:=Option.isSome_iff_exists.mp a
   rw [if_pos e,e,hx,Option.map_some,if_pos rfl]
  ·rw [if_neg e]
   cases valV kvs j with
   | none=>rfl
   | some x=>rw [Option.map_some,if_neg e]
 ·rw [if_neg a]
  refine kE k j y kvs ?_
  rw [fq]at a
  cases q:valV kvs k with
  | none=>rfl
  | some x=>rw [q]at a;exact(a rfl).elim
theorem dq (kvs:List (κ × V)) (k:κ) (v:V):(cF kvs k v).length<=kvs.length+1:=by
 unfold cF
 split
 ·rw [List.length_map];omega
 ·rw [List.length_append,List.length_cons,List.length_nil];omega
theorem eB.isSome_eq {o:Option V}{u:Option Value} (r:eB o u):o.isSome=u.isSome:=by
 cases o with
 | none=>cases u with
  | none=>rfl
  | some _=>exact(show False from r).elim
 | some _=>cases u with
  | none=>exact(show False from r).elim
  | some _=>rfl
theorem eB.getD {o:Option V}{u:Option Value}{d:V}{d':Value} (r:eB o u) (rd:aP d d'):aP (o.getD d) (u.getD d'):=by
 cases o with
 | none=>cases u with
  | none=>exact rd
  | some _=>exact(show False from r).elim
 | some _=>cases u with
  | none=>exact(show False from r).elim
  | some _=>exact r
theorem KV.val {kvs:List (κ × V)}{vs:List (κ × Value)} (r:KV kvs vs) (k:κ):eB (valV kvs k) (valueAt vs k):=by
 unfold KV at r
 induction r with
 | nil=>exact True.intro
 | @cons p q ps qs h t ih=>
  obtain⟨h1,h2⟩:=h
  by_cases e:p.1=k
  ·have e':q.1=k:=h1.symm.trans e
   have b:valueAt (q::qs) k=some q.2:=by simp [valueAt,List.find?_cons,e']
   rw [ck e,b];exact h2
  ·have e':¬q.1=k:=λz=>e (h1.trans z)
   have b:valueAt (q::qs) k=valueAt qs k:=by simp [valueAt,List.find?_cons,e']
   rw [cm e,b];exact ih
theorem KV.any {kvs:List (κ × V)}{vs:List (κ × Value)} (r:KV kvs vs) (k:κ):(kvs.any λkv=>decide (kv.1=k))=vs.any λkv=>decide (kv.1=k):=by
 unfold KV at r
 induction r with
 | nil=>rfl
 | cons h t ih=>rw [List.any_cons,List.any_cons,ih,h.1]
theorem KV.repl {kvs:List (κ × V)}{vs:List (κ × Value)} (r:KV kvs vs) (k:κ){y:V}{u:Value} (ry:aP y u) :
  KV (kvs.map λkv=>if kv.1=k then (kv.1,y) else kv) (vs.map λkv=>if kv.1=k then (kv.1,u) else kv):=by
 unfold KV at r ⊢
 induction r with
 | nil=>exact .nil
 | @cons p q ps qs h t ih=>
  rw [List.map_cons,List.map_cons]
  refine .cons ?_ ih
  obtain⟨h1,h2⟩:=h
  by_cases e:p.1=k
  ·rw [if_pos e,if_pos (h1.symm.trans e)];exact⟨h1,ry⟩
  ·rw [if_neg e,if_neg (λz=>e (h1.trans z))];exact⟨h1,h2⟩
theorem KV.put {kvs:List (κ × V)}{vs:List (κ × Value)} (r:KV kvs vs) (k:κ){y:V}{u:Value} (ry:aP y u):KV (cF kvs k y) (stored vs k u):=by
 unfold cF stored
 rw [r.any k]
 by_cases e:(vs.any λkv=>decide (kv.1=k))=true
 ·rw [if_pos e,if_pos e];exact r.repl k ry
 ·rw [if_neg e,if_neg e];exact Paired.snoc r ⟨rfl,ry⟩
theorem KV.keys {kvs:List (κ × V)}{vs:List (κ × Value)} (r:KV kvs vs):kvs.map (·.1)=vs.map (·.1):=by
 unfold KV at r
 induction r with
 | nil=>rfl
 | cons h t ih=>rw [List.map_cons,List.map_cons,ih,h.1]
theorem KV.length {kvs:List (κ × V)}{vs:List (κ × Value)} (r:KV kvs vs):kvs.length=vs.length:=Paired.length r
end
theorem hV {P:Program}{w:World}{k:Key}{u:Value} (r:aP (kV k) u):(aZ P w).is k u=true:=by
 cases k with
 | inl i=>obtain⟨t,e⟩:=(show ∃t,u=Value.int i t from r);subst e;exact nR P w i t
 | inr x=>obtain⟨t,e⟩:=(show ∃t,u=Value.str x t from r);subst e;exact nQ P w x t
theorem kY {P:Program}{w:World}:∀{ks:List Key}{us:List Value},aJ (ks.map kV) us->ItemsAre (aZ P w) ks us
 | [],_,r=>by rw [List.map_nil]at r;cases r;exact .nil
 | k::ks,_,r=>by
  rw [List.map_cons]at r
  cases r with
  | cons h t=>exact .cons (hV h) (kY t)
noncomputable abbrev KT (H:Hp):List (List Key × V)->List (List Key × Addr × Value)->Prop:=Paired λp q=>p.1=q.1/\H q.2.1=some (.tup (p.1.map kV))/\aP p.2 q.2.2
theorem KT.val {H:Hp}{kvs:List (List Key × V)}{xs:List (List Key × Addr × Value)} (r:KT H kvs xs) (k:List Key):eB (valV kvs k) ((atKey xs k).map (·.2)):=by
 induction r with
 | nil=>exact True.intro
 | @cons p q ps qs h t ih=>
  obtain⟨h1,_,h2⟩:=h
  by_cases e:p.1=k
  ·have e':q.1=k:=h1.symm.trans e
   have b:atKey (q::qs) k=some q.2:=by simp [atKey,List.find?_cons,e']
   rw [ck e,b];exact h2
  ·have e':¬q.1=k:=λz=>e (h1.trans z)
   have b:atKey (q::qs) k=atKey qs k:=by simp [atKey,List.find?_cons,e']
   rw [cm e,b];exact ih
theorem KT.repl {H:Hp}{kvs:List (List Key × V)}{xs:List (List Key × Addr × Value)} (r:KT H kvs xs) (k:List Key){y:V}{u:Value} (ry:aP y u) :
  KT H (kvs.map λkv=>if kv.1=k then (kv.1,y) else kv) (xs.map (putAt k u)):=by
 induction r with
 | nil=>exact .nil
 | @cons p q ps qs h t ih=>
  rw [List.map_cons,List.map_cons]
  refine .cons ?_ ih
  obtain⟨h1,h2,h3⟩:=h
  unfold putAt
  by_cases e:p.1=k
  ·rw [if_pos e,if_pos (h1.symm.trans e)];exact⟨h1,h2,ry⟩
  ·rw [if_neg e,if_neg (λz=>e (h1.trans z))];exact⟨h1,h2,h3⟩
theorem KT.put {H:Hp}{kvs:List (List Key × V)}{xs:List (List Key × Addr × Value)} (r:KT H kvs xs) (k:List Key){b:Addr}{y:V}{u:Value} (hb:H b=some (.tup (k.map kV))) (ry:aP y u) :
  KT H (cF kvs k y) (storedH xs k b u):=by
 have e:(kvs.any λkv=>decide (kv.1=k))=(atKey xs k).isSome:=by
  rw [fq,(r.val k).isSome_eq,Option.isSome_map]
 unfold cF storedH
 rw [e]
 by_cases q:(atKey xs k).isSome=true
 ·rw [if_pos q,if_pos q];exact r.repl k ry
 ·rw [if_neg q,if_neg q];exact Paired.snoc r ⟨rfl,hb,ry⟩
theorem KT.keeps {H H':Hp}{kvs:List (List Key × V)}{xs:List (List Key × Addr × Value)} (r:KT H kvs xs) (ht:∀b ys,H b=some (.tup ys)->H' b=some (.tup ys)):KT H' kvs xs:=
 Paired.mapP r λ_ _ z=>⟨z.1,ht _ _ z.2.1,z.2.2⟩
section
variable {P:Program}{w:World}{H:Hp}{h:Heap}{a:Addr}
theorem xW {u:HO} (ok:HOk P w H h) (e:Rd H a u):br P w H h a u:=e.ok ok
theorem iP {kvs:List (Key × V)} (ok:HOk P w H h) (e:Rd H a (.dK kvs)):kvs.length<=sizeLine/\(a == sysModules)=false/\∃vs,KV kvs vs/\h.DictOf (aZ P w) a vs:=
 show br P w H h a (.dK kvs) from xW ok e
theorem vH {kvs:List (Key × V)} (ok:HOk P w H h) (e:H a=some (.dK kvs)):kvs.length<=sizeLine/\(a == sysModules)=false/\∃vs,KV kvs vs/\h.DictOf (aZ P w) a vs:=iP ok (.inl e)
theorem gJ {ks:List Key} (ok:HOk P w H h) (e:H a=some (.tup (ks.map kV))):(tupleKind (aZ P w)).is h ks a:=by
 obtain⟨_,its,r,o,h1,h2,n,h3⟩:=(show br P w H h a (.tup (ks.map kV)) from ok a _ e)
 exact⟨o,its.toArray,n,h1,h2,h3,by simpa using kY r⟩
theorem iO {kvs:List (List Key × V)} (ok:HOk P w H h) (e:Rd H a (.dT kvs)):kvs.length<=sizeLine/\(a == sysModules)=false/\
  ∃xs,KT H kvs xs/\h.DictOfH (tupleKind (aZ P w)) a xs:=by
 obtain⟨z,y,xs,r,o,es,ep,h1,h2,h3,h4,h5⟩:=(show br P w H h a (.dT kvs) from xW ok e)
 refine⟨z,y,xs,r,o,es,ep,h1,h2,h3,h4,λx hx=>?_,h5⟩
 have all:∀{l:List (List Key × V)}{m:List (List Key × Addr × Value)},KT H l m->∀x∈m,(tupleKind (aZ P w)).is h x.1 x.2.1:=by
  intro l m q
  induction q with
  | nil=>intro x hx;exact nomatch hx
  | @cons p q ps qs hq t ih=>
   intro x hx
   rcases List.mem_cons.mp hx with e | hx
   ·subst e
    exact gJ ok (by rw [<- hq.1];exact hq.2.1)
   ·exact ih x hx
 exact all r x hx
theorem AM {kvs:List (List Key × V)} (ok:HOk P w H h) (e:H a=some (.dT kvs)):kvs.length<=sizeLine/\(a == sysModules)=false/\
  ∃xs,KT H kvs xs/\h.DictOfH (tupleKind (aZ P w)) a xs:=iO ok (.inl e)
end
def cB (H:Hp) (a:Addr) (y:V) (r:Option V):Prop:=
 (∃kvs k,Rd H a (.dK kvs)/\y=kV k/\r=valV kvs k)\/∃kvs k b,Rd H a (.dT kvs)/\y=.ref b/\H b=some (.tup (k.map kV))/\r=valV kvs k
def pO (H:Hp) (a:Addr) (y v:V) (H':Hp):Prop:=
 (∃kvs k,H a=some (.dK kvs)/\y=kV k/\kvs.length < sizeLine/\H'=upd H a (.dK (cF kvs k v)))\/
 ∃kvs k b,H a=some (.dT kvs)/\y=.ref b/\H b=some (.tup (k.map kV))/\kvs.length < sizeLine/\H'=upd H a (.dT (cF kvs k v))
theorem cB.k {H:Hp}{a:Addr}{kvs:List (Key × V)}{k:Key} (e:H a=some (.dK kvs)):cB H a (kV k) (valV kvs k):=.inl ⟨kvs,k,.inl e,rfl,rfl⟩
theorem pO.k {H:Hp}{a:Addr}{kvs:List (Key × V)}{k:Key}{v:V} (e:H a=some (.dK kvs)) (hl:kvs.length < sizeLine):pO H a (kV k) v (upd H a (.dK (cF kvs k v))):=.inl ⟨kvs,k,e,rfl,hl,rfl⟩
section
variable {X:Cx}{pins:List (Addr × Obj)}{σ:St}{H:Hp}{s:Shared}{a:Addr}{y v:V}{u r:Value}{o:Option V}{A:Around}{E:Value->Shared->Prop}
theorem Inv.big (I:Inv X pins σ H s):sysModules < s.heap.objs.size:=by
 have h:mainGlobals < s.heap.objs.size:=(I.mod.glob.keeps I.bk).lt
 exact Nat.lt_trans (by decide) h
theorem sC {Q:Value->Shared->Prop} (hu:A.units+1 < cLine) (I:Inv X pins σ H s) (g:cB H a y (some v)) (ry:aP y u) (h:∀w' s',Inv X pins σ H s'->aP v w'->Q w' s') :
  wpAny (model X.prog X.w) A (getItem (.ref a) u) Q E s:=by
 rcases g with⟨kvs,k,e,ey,l⟩ | ⟨kvs,k,b,e,ey,eb,l⟩
 ·subst ey
  obtain⟨z,hd,vs,rel,dd⟩:=iP I.hok e
  obtain⟨w',hw,rw'⟩:=eB.some_of (v:=v) (o:=valueAt vs k) (by rw [l];exact rel.val k)
  exact wpAny_getItem_of (hV ry) dd.mapOf hw (h w' _ (I.tok _) rw')
 ·subst ey
  cases (show u=Value.ref b from ry)
  obtain⟨z,hd,xs,rel,dd⟩:=iO I.hok e
  obtain⟨w',hw,rw'⟩:=eB.some_of (v:=v) (o:=(atKey xs k).map (·.2)) (by rw [l];exact rel.val k)
  obtain⟨p,hp,hp2⟩:=Option.map_eq_some_iff.mp hw
  refine wpAny_getItem_heap (tupleKind_room_in1 hu) (gJ I.hok eb) dd hp ?_
  rw [hp2]
  exact h w' _ (I.tok _) rw'
theorem Bd {Q:Value->Shared->Prop} (hu:A.units+1 < cLine) (I:Inv X pins σ H s) (g:cB H a y o) (ry:aP y u) (h:∀s',Inv X pins σ H s'->Q (.bool o.isSome) s') :
  wpAny (model X.prog X.w) A (compareOp .In u (.ref a)) Q E s:=by
 rcases g with⟨kvs,k,e,ey,l⟩ | ⟨kvs,k,b,e,ey,eb,l⟩
 ·subst ey
  obtain⟨z,hd,vs,rel,dd⟩:=iP I.hok e
  refine wpAny_in_of (hV ry) hd dd.mapOf ?_
  rw [<- (rel.val k).isSome_eq,<- l]
  exact h _ (I.tok _)
 ·subst ey
  cases (show u=Value.ref b from ry)
  obtain⟨z,hd,xs,rel,dd⟩:=iO I.hok e
  refine wpAny_in_heap (tupleKind_room_in1 hu) (gJ I.hok eb) hd dd ?_
  have q:=(rel.val k).isSome_eq
  rw [Option.isSome_map]at q
  rw [<- q,<- l]
  exact h _ (I.tok _)
theorem xE {Q:Value->Shared->Prop} (hu:A.units+1 < cLine) (I:Inv X pins σ H s) (g:cB H a y o) (ry:aP y u) (h:∀s',Inv X pins σ H s'->Q (.bool (!o.isSome)) s') :
  wpAny (model X.prog X.w) A (compareOp .NotIn u (.ref a)) Q E s:=by
 rcases g with⟨kvs,k,e,ey,l⟩ | ⟨kvs,k,b,e,ey,eb,l⟩
 ·subst ey
  obtain⟨z,hd,vs,rel,dd⟩:=iP I.hok e
  refine wpAny_notIn_of (hV ry) hd dd.mapOf ?_
  rw [<- (rel.val k).isSome_eq,<- l]
  exact h _ (I.tok _)
 ·subst ey
  cases (show u=Value.ref b from ry)
  obtain⟨z,hd,xs,rel,dd⟩:=iO I.hok e
  refine wpAny_notIn_heap (tupleKind_room_in1 hu) (gJ I.hok eb) hd dd ?_
  have q:=(rel.val k).isSome_eq
  rw [Option.isSome_map]at q
  rw [<- q,<- l]
  exact h _ (I.tok _)
theorem mx {h':Heap}{t':Nat}{ob:HO} (I:Inv X pins σ H s) (mu:Mut (H a)) (hs:Heap.SameBut a s.heap h') (he:∃q,h'.get? a=some q) (new:br X.prog X.w (upd H a ob) h' a ob) :
  Inv X pins σ (upd H a ob) { s with heap:=h',toks:=t' }:=
 I.write (x:=a) (e:=a) mu (.inl rfl) (λb q hb z=>(hs.2 b hb).trans z) he new
theorem mo {P:Program}{w:World}{H':Hp}{h':Heap}{kvs:List (Key × V)}{vs:List (Key × Value)} (z:kvs.length<=sizeLine) (hd:(a == sysModules)=false) (rel:KV kvs vs) (dd:h'.DictOf (aZ P w) a vs) :
  br P w H' h' a (.dK kvs):=⟨z,hd,vs,rel,dd⟩
theorem sB {H':Hp}{Q:Unit->Shared->Prop} (hu:A.units+1 < cLine) (I:Inv X pins σ H s) (g:pO H a y v H') (ry:aP y u) (rv:aP v r) (h:∀s',Inv X pins σ H' s'->Q () s') :
  wpAny (model X.prog X.w) A (setItem (.ref a) u r) Q E s:=by
 rcases g with⟨kvs,k,e,ey,l,eH⟩ | ⟨kvs,k,b,e,ey,eb,l,eH⟩
 ·subst ey eH
  obtain⟨z,hd,vs,rel,dd⟩:=vH I.hok e
  have hz:vs.length<=sizeLine:=by rw [<- rel.length];exact z
  have hl:(cF kvs k v).length<=sizeLine:=by have:=dq kvs k v;omega
  refine wpAny_setItem_pairs (hsz:=hz) (hV ry) dd λh' dd' hs=>h _ ?_
  have he:∃q,h'.get? a=some q:=let ⟨q,_,_,hq,_⟩:=dd';⟨q,hq⟩
  exact mx I (by rw [e];exact True.intro) hs he (mo hl hd (rel.put k rv) dd')
 ·subst ey eH
  cases (show u=Value.ref b from ry)
  obtain⟨z,hd,xs,rel,dd⟩:=AM I.hok e
  have hz:xs.length<=sizeLine:=by rw [<- Paired.length rel];exact z
  have hl:(cF kvs k v).length<=sizeLine:=by have:=dq kvs k v;omega
  refine wpAny_setItem_heap (hsz:=hz) (tupleKind_room_in1 hu) (gJ I.hok eb) dd λh' dd' hs=>h _ ?_
  obtain⟨q,es,ep,hq,h2,h3,h4,_,h5⟩:=dd'
  refine mx I (by rw [e];exact True.intro) hs ⟨q,hq⟩ ⟨hl,hd,_,(rel.put k eb rv).keeps λc ys ec=>?_,q,es,ep,hq,h2,h3,h4,h5⟩
  rw [ag (aD ec e (λz=>nomatch z))]
  exact ec
end
section
variable {X:Cx}{pins:List (Addr × Obj)}{σ:St}{H:Hp}{s:Shared}{a:Addr}{kvs:List (Key × V)}{k:Key}{u:Value}{A:Around}{E:Value->Shared->Prop}
end
def AU (i:Expr):Prop:=∀ov iv,subscripted i false ov iv=operate [ov,iv] (getItem ov iv)
theorem wg {prog:Program}{w:World}{A:Around}{E:Value->Shared->Prop}{s:Shared}{env:Env}{value slice:Expr}{pos:Pos}{T id:String}{Q:Value->Shared->Prop}
  (hl:typeLookup (.type T) "__getitem__" = pure (some (.builtin id))) (hs:AU slice)
  (h:wpAny (model prog w) A (eval value env) (λo s₁=>wpAny (model prog w) A (eval slice env) (λi s₂=>s₂.TypeIs o T/\wpAny (model prog w) A (getItem o i) Q E s₂) E s₁) E s) :
  wpAny (model prog w) A (eval (.Subscript value slice pos) env) Q E s:=by
 refine Subscript_ (wpAny_mono h (λo s₁ h₁=>wpAny_mono h₁ (λi s₂ h₂=>?_) λ_ _ x=>x) λ_ _ x=>x)
 obtain⟨hT,h₂⟩:=h₂
 unfold subscriptTail
 refine zB0 ?_
 rw [getitemInPython_of_ne hT.not_modules]
 refine zB0 (wpAny_specialOf hT hl ?_)
 have fin:wpAny (model prog w) A (subscripted slice false o i) (λr s₃=>wpAny (model prog w) A (letTemporaryGo value o r >>= λ_=>pure r) Q E s₃) E s₂:=by
  rw [hs o i]
  exact wpAny_operating (wpAny_mono h₂ (λr s₃ h₃=>zB0 (wpAny_letTemporaryGo (zP0 h₃))) λ_ _ x=>x)
 first
  | exact zP0 (zB0 fin)
  | exact zB0 (zP0 (zB0 fin))
  | exact zB0 fin
theorem o4 {X:Cx}{pins:List (Addr × Obj)}{σ:St}{H:Hp}{s:Shared}{a:Addr}{y:V}{o:Option V} (I:Inv X pins σ H s) (g:cB H a y o):s.TypeIs (.ref a) "dict":=by
 rcases g with⟨kvs,k,e,_,_⟩ | ⟨kvs,k,b,e,_,_,_⟩
 ·obtain⟨_,_,vs,_,dd⟩:=iP I.hok e
  exact dd.typeIs
 ·obtain⟨_,_,xs,_,dd⟩:=iO I.hok e
  exact dd.typeIs
inductive ye (x y:V) (H2:Hp) (Q:VK):Prop
 | mk (a v) (h1:x=.ref a) (h2:cB H2 a y (some v)) (h3:Q v H2):ye x y H2 Q
noncomputable def Ae (td ty:TE):TE:=λσ H Q=>td σ H λx H1=>ty σ H1 λy H2=>ye x y H2 Q
inductive AN (x y:V) (H2:Hp) (Q:VK):Prop
 | mk (a o) (h1:x=.ref a) (h2:cB H2 a y o) (h3:Q (.bl o.isSome) H2):AN x y H2 Q
noncomputable def B2 (ty td:TE):TE:=λσ H Q=>ty σ H λy H1=>td σ H1 λx H2=>AN x y H2 Q
inductive yc (x y:V) (H2:Hp) (Q:VK):Prop
 | mk (a o) (h1:x=.ref a) (h2:cB H2 a y o) (h3:Q (.bl (!o.isSome)) H2):yc x y H2 Q
noncomputable def we (ty td:TE):TE:=λσ H Q=>ty σ H λy H1=>td σ H1 λx H2=>yc x y H2 Q
noncomputable def Aq (td ty tv:TE):TS:=λD σ H=>tv σ H λv H1=>td σ H1 λx H2=>ty σ H2 λy H3=>∃a H4,x=.ref a/\pO H3 a y v H4/\D.nx σ H4
section
variable {X:Cx}{o i e value:Expr}{pos pos' tpos:Pos}{td ty tv:TE}
theorem bH (hu:X.A.units+1 < cLine) (ho:PE X o td) (hi:PE X i ty) (hs:AU i):PE X (.Subscript o i pos) (Ae td ty):=by
 intro pins s σ H Q I h
 refine wg PySem.F.slot_dict_getitem.lookup hs (thn (ho pins s σ H _ I h) λu s1 ⟨x,H1,I1,rx,q1⟩=>thn (hi pins s1 σ H1 _ I1 q1) λiv s2 ⟨y,H2,I2,ry,a,v,ex,g,q2⟩=>?_)
 subst ex
 obtain rfl:u=Value.ref a:=rx
 exact⟨o4 I2 g,sC hu I2 g ry λw' s3 I3 rw'=>⟨v,H2,I3,rw',q2⟩⟩
theorem yY (hu:X.A.units+1 < cLine) (hi:PE X i ty) (ho:PE X o td):PC X .In i o (B2 ty td):=by
 intro pins s σ H Q I h
 refine thn (hi pins s σ H _ I h) λiv s1 ⟨y,H1,I1,ry,q1⟩=>thn (ho pins s1 σ H1 _ I1 q1) λu s2 ⟨x,H2,I2,rx,a,ov,ex,g,q2⟩=>?_
 subst ex
 obtain rfl:u=Value.ref a:=rx
 exact Bd hu I2 g ry λs3 I3=>⟨.bl ov.isSome,H2,I3,rfl,q2⟩
theorem kR (hu:X.A.units+1 < cLine) (hi:PE X i ty) (ho:PE X o td):PC X .NotIn i o (we ty td):=by
 intro pins s σ H Q I h
 refine thn (hi pins s σ H _ I h) λiv s1 ⟨y,H1,I1,ry,q1⟩=>thn (ho pins s1 σ H1 _ I1 q1) λu s2 ⟨x,H2,I2,rx,a,ov,ex,g,q2⟩=>?_
 subst ex
 obtain rfl:u=Value.ref a:=rx
 exact xE hu I2 g ry λs3 I3=>⟨.bl (!ov.isSome),H2,I3,rfl,q2⟩
theorem me (hu:X.A.units+1 < cLine) (ho:PE X o td) (hi:PE X i ty) (hv:PE X value tv) (hs:swapsWith value (some (.Subscript o i pos')) pos.line X.env=pure false) :
  PS X (.Assign [.Subscript o i pos'] value pos) (Aq td ty tv):=by
 intro pins s σ H D I h
 refine wpAny_Assign_Subscript (thn (hv pins s σ H _ I h) λr s1 ⟨v,H1,I1,rv,q1⟩=>thn (ho pins s1 σ H1 _ I1 q1) λu s2 ⟨x,H2,I2,rx,q2⟩=>thn (hi pins s2 σ H2 _ I2 q2) λiv s3 ⟨y,H3,I3,ry,a,H4,ex,g,q3⟩=>?_) hs
 subst ex
 obtain rfl:u=Value.ref a:=rx
 exact sB hu I3 g ry rv λs4 I4=>⟨σ,H4,I4,q3⟩
end
theorem jT {P:Program}{w:World}{H:Hp} (h:Heap) (hb:sysModules < h.objs.size):br P w H (h.push { cls:=.type "dict", data:=.dict #[] }) h.objs.size (.dK []):=
 ⟨Nat.zero_le _,beq_eq_false_iff_ne.mpr (Ne.symm (Nat.ne_of_lt hb)),[],.nil,Heap.DictOf.new h⟩
noncomputable def yl:TE:=λ_ H Q=>∀p,H p=none->Q (.ref p) (upd H p (.dK []))
section
variable {X:Cx}{pos:Pos}
theorem nK:PE X (.Dict [] [] pos) yl:=λpins s σ H Q I h=>
 wpAny_Dict_empty ⟨.ref s.heap.objs.size,_,I.laid (a:=s.heap.objs.size) (o:=.dK []) (t':=s.toks) (λ_ _ q=>zH0 _ q) (Nat.le_refl _) (jT s.heap I.big),rfl,h _ (I.hok.fresh (Nat.le_refl _))⟩
end
noncomputable def oq:List (TE × TE)->St->Hp->(List (V × V)->Hp->Prop)->Prop
 | [],_,H,Q=>Q [] H
 | (tk,tv)::r,σ,H,Q=>tk σ H λx H1=>tv σ H1 λy H2=>oq r σ H2 λps H3=>Q ((x,y)::ps) H3
noncomputable abbrev VV:List (V × V)->List (Value × Value)->Prop:=Paired λp q=>aP p.1 q.1/\aP p.2 q.2
def PPs (X:Cx) (pos:Pos) (keys:List (Option Expr)) (values:List Expr) (trs:List (TE × TE)):Prop:=
 ∀(pins:List (Addr × Obj)) (s:Shared) (σ:St) (H:Hp) (Q:List (V × V)->Hp->Prop),Inv X pins σ H s->oq trs σ H Q->
  wpAny (model X.prog X.w) X.A (evalPairs (pairTrees keys values X.env pos)) (λvs s'=>∃ps H',Inv X pins σ H' s'/\VV ps vs/\Q ps H') X.xe s
theorem wL {X:Cx}{pos:Pos}:PPs X pos [] [] []:=λpins s σ H Q I h=>pairTrees_nil_walk ⟨[],H,I,.nil,h⟩
theorem h8 {X:Cx}{pos:Pos}{k v:Expr}{ks:List (Option Expr)}{vs:List Expr}{tk tv:TE}{trs:List (TE × TE)} (hk:PE X k tk) (hv:PE X v tv) (hr:PPs X pos ks vs trs) :
  PPs X pos (some k::ks) (v::vs) ((tk,tv)::trs):=λpins s σ H Q I h=>
 pairTrees_cons_walk (thn (hk pins s σ H _ I h) λu s1 ⟨x,H1,I1,rx,q1⟩=>thn (hv pins s1 σ H1 _ I1 q1) λw2 s2 ⟨y,H2,I2,ry,q2⟩=>
  thn (hr pins s2 σ H2 _ I2 q2) λws s3 ⟨ps,H3,I3,rel,q3⟩=>⟨(x,y)::ps,H3,I3,.cons ⟨rx,ry⟩ rel,q3⟩)
noncomputable def ix (kvs more:List (Key × V)):List (Key × V):=more.foldl (λacc kv=>cF acc kv.1 kv.2) kvs
theorem KV.merge:∀{more:List (Key × V)}{rs:List (Key × Value)}{kvs:List (Key × V)}{vs:List (Key × Value)},KV more rs->KV kvs vs->KV (ix kvs more) (merged vs rs):=by
 intro more rs kvs vs r
 unfold KV at r
 induction r generalizing kvs vs with
 | nil=>intro q;exact q
 | @cons p q ps qs h t ih=>
  intro r0
  have e:KV (cF kvs p.1 p.2) (stored vs q.1 q.2):=by
   have:=r0.put p.1 h.2
   rw [<- h.1];exact this
  exact ih e
theorem gt:∀(more kvs:List (Key × V)),(ix kvs more).length<=kvs.length+more.length
 | [],kvs=>by show kvs.length<=kvs.length+0;omega
 | p::r,kvs=>by
  have h1:=gt r (cF kvs p.1 p.2)
  have h2:=dq kvs p.1 p.2
  show (ix (cF kvs p.1 p.2) r).length<=_
  rw [List.length_cons];omega
theorem jU {P:Program}{w:World}:∀{kvs:List (Key × V)}{ws:List (Value × Value)},VV (kvs.map λkv=>(kV kv.1,kv.2)) ws->∃rs,Carries (aZ P w) ws rs/\KV kvs rs
 | [],_,r=>by rw [List.map_nil]at r;cases r;exact⟨[],True.intro,.nil⟩
 | p::kvs,_,r=>by
  rw [List.map_cons]at r
  cases r with
  | @cons a b as bs h t=>
   obtain⟨rs,c,q⟩:=jU (P:=P) (w:=w) t
   obtain⟨b1,b2⟩:=b
   exact⟨(p.1,b2)::rs,⟨hV h.1,rfl,c⟩,.cons ⟨rfl,h.2⟩ q⟩
noncomputable def Ad (trs:List (TE × TE)):TE:=λσ H Q=>∀p,H p=none->oq trs σ (upd H p (.dK [])) λps H2=>H2 p=some (.dK [])/\∃kvs:List (Key × V),ps=kvs.map (λkv=>(kV kv.1,kv.2))/\kvs.length<=15/\Q (.ref p) (upd H2 p (.dK (ix [] kvs)))
theorem wR {X:Cx}{pos:Pos}{keys:List (Option Expr)}{values:List Expr}{trs:List (TE × TE)} (h:PPs X pos keys values trs) (hall:keys.all (·.isSome)=true) (hl:keys.length=values.length) (h0:keys≠[])
  (h15:keys.length<=15):PE X (.Dict keys values pos) (Ad trs):=by
 intro pins s σ H Q I q
 have hn:=I.hok.fresh (Nat.le_refl s.heap.objs.size)
 have I1:=I.laid (a:=s.heap.objs.size) (o:=.dK []) (h':=s.heap.push { cls:=.type "dict", data:=.dict #[] }) (t':=s.toks) (λ_ _ q=>zH0 _ q) (Nat.le_refl _) (jT s.heap I.big)
 refine wpAny_Dict_walk (knd:=aZ X.prog X.w) hall hl h0 h15 (thn (h pins _ σ _ _ I1 (q _ hn)) λws s2 ⟨ps,H2,I2,rel,e,kvs,ep,lk,q2⟩=>?_)
 subst ep
 obtain⟨rs,c,rk⟩:=jU (P:=X.prog) (w:=X.w) rel
 obtain⟨z,hd,vs0,r0,dd⟩:=vH I2.hok e
 cases r0
 refine⟨rs,c,dd,λh' dd' hs=>⟨.ref s.heap.objs.size,_,?_,rfl,q2⟩⟩
 have hz:(ix [] kvs).length<=sizeLine:=by
  have h1:=gt kvs []
  rw [List.length_nil]at h1
  rw [sizeLine_eq];omega
 have he:∃q,h'.get? s.heap.objs.size=some q:=let ⟨q,_,_,hq,_⟩:=dd';⟨q,hq⟩
 exact mx I2 (by rw [e];exact True.intro) hs he (mo hz hd (rk.merge .nil) dd')
structure M1 (X:Cx) (o:Expr) (m:Str) (apos:Pos) (e:Expr) (cpos:Pos):Prop where
 base:attributeBase o m X.env (eval o X.env)=eval o X.env
 few:((backTo cpos (starEach [e] X.env)).all (λx=>!x.1) && (backToKw cpos (keywordEach [] X.env)).all (λx=>x.1.isSome)
  && decide (([e]:List Expr).length+([]:List Keyword).length+(if ([]:List Keyword).isEmpty then 0 else 1) < 30))=true
 line:(apos.endLine == cpos.line)=true
 trees:backTo cpos (starEach [e] X.env)=[(false,eval e X.env)]
structure M2 (X:Cx) (o:Expr) (m:Str) (apos:Pos) (e f:Expr) (cpos:Pos):Prop where
 base:attributeBase o m X.env (eval o X.env)=eval o X.env
 few:((backTo cpos (starEach [e,f] X.env)).all (λx=>!x.1) && (backToKw cpos (keywordEach [] X.env)).all (λx=>x.1.isSome)
  && decide (([e,f]:List Expr).length+([]:List Keyword).length+(if ([]:List Keyword).isEmpty then 0 else 1) < 30))=true
 line:(apos.endLine == cpos.line)=true
 trees:backTo cpos (starEach [e,f] X.env)=[(false,eval e X.env),(false,eval f X.env)]
def IsD (H:Hp) (a:Addr):Prop:=(∃kvs,Rd H a (.dK kvs))\/∃kvs,Rd H a (.dT kvs)
theorem vn {X:Cx}{pins:List (Addr × Obj)}{σ:St}{H:Hp}{s:Shared}{a:Addr} (I:Inv X pins σ H s) (d:IsD H a) :
  s.TypeIs (.ref a) "dict"/\(∀b,Value.ref a=.ref b->∃ob,s.heap.get? b=some ob/\ob.dict=none)/\(a == sysModules)=false:=by
 rcases d with⟨kvs,e⟩ | ⟨kvs,e⟩
 ·obtain⟨_,hd,vs,_,dd⟩:=iP I.hok e
  refine⟨dd.typeIs,λb q=>?_,hd⟩
  cases q
  obtain⟨ob,_,_,h1,h2,_⟩:=dd
  exact⟨ob,h1,h2.2.1⟩
 ·obtain⟨_,hd,xs,_,dd⟩:=iO I.hok e
  refine⟨dd.typeIs,λb q=>?_,hd⟩
  cases q
  obtain⟨ob,_,_,h1,h2,_⟩:=dd
  exact⟨ob,h1,h2.2.1⟩
section
variable {X:Cx}{pins:List (Addr × Obj)}{σ:St}{H:Hp}{s:Shared}{a:Addr}{y d:V}{u r:Value}{o:Option V}{A:Around}{E:Value->Shared->Prop}
theorem zL {Q:Value->Shared->Prop} (hu:A.units+1 < cLine) (I:Inv X pins σ H s) (g:cB H a y o) (ry:aP y u) (h:∀w' s',Inv X pins σ H s'->aP (o.getD .non) w'->Q w' s') :
  wpAny (model X.prog X.w) A (call (.builtin "dict.get") [.ref a,u]) Q E s:=by
 rcases g with⟨kvs,k,e,ey,l⟩ | ⟨kvs,k,b,e,ey,eb,l⟩
 ·subst ey
  obtain⟨z,hd,vs,rel,dd⟩:=iP I.hok e
  refine call_meetsIn PySem.F.slot_dict_get dd.typeIs PySem.F.entry_dict_get (PySem.F.args_dict_get_2 _ _) (meets_dict_get (aZ X.prog X.w) a (hV ry) hd) ⟨_,dd.mapOf,h _ _ (I.tok _) ?_⟩
  rw [l]
  exact(rel.val k).getD rfl
 ·subst ey
  cases (show u=Value.ref b from ry)
  obtain⟨z,hd,xs,rel,dd⟩:=iO I.hok e
  refine call_meetsIn PySem.F.slot_dict_get dd.typeIs PySem.F.entry_dict_get (PySem.F.args_dict_get_2 _ _) (meetsH_dict_get (tupleKind (aZ X.prog X.w)) a b hd) ⟨tupleKind_room_in1 hu,k,xs,gJ I.hok eb,dd,h _ _ (I.tok _) ?_⟩
  rw [l]
  exact(rel.val k).getD rfl
theorem zK {Q:Value->Shared->Prop} (hu:A.units+1 < cLine) (I:Inv X pins σ H s) (g:cB H a y o) (ry:aP y u) (rd:aP d r) (h:∀w' s',Inv X pins σ H s'->aP (o.getD d) w'->Q w' s') :
  wpAny (model X.prog X.w) A (call (.builtin "dict.get") [.ref a,u,r]) Q E s:=by
 rcases g with⟨kvs,k,e,ey,l⟩ | ⟨kvs,k,b,e,ey,eb,l⟩
 ·subst ey
  obtain⟨z,hd,vs,rel,dd⟩:=iP I.hok e
  refine call_meetsIn PySem.F.slot_dict_get dd.typeIs PySem.F.entry_dict_get (PySem.F.args_dict_get_3 _ _ _) (meets_dict_get_default (aZ X.prog X.w) a (hV ry) hd r) ⟨_,dd.mapOf,h _ _ (I.tok _) ?_⟩
  rw [l]
  exact(rel.val k).getD rd
 ·subst ey
  cases (show u=Value.ref b from ry)
  obtain⟨z,hd,xs,rel,dd⟩:=iO I.hok e
  refine call_meetsIn PySem.F.slot_dict_get dd.typeIs PySem.F.entry_dict_get (PySem.F.args_dict_get_3 _ _ _) (meetsH_dict_get_default (tupleKind (aZ X.prog X.w)) a b hd r) ⟨tupleKind_room_in1 hu,k,xs,gJ I.hok eb,dd,h _ _ (I.tok _) ?_⟩
  rw [l]
  exact(rel.val k).getD rd
end
noncomputable def yo (td ty:TE):TE:=λσ H Q=>td σ H λx H1=>∃a,x=.ref a/\IsD H1 a/\ty σ H1 λy H2=>∃o,cB H2 a y o/\Q (o.getD .non) H2
noncomputable def ym (td ty tx:TE):TE:=λσ H Q=>td σ H λx H1=>∃a,x=.ref a/\IsD H1 a/\ty σ H1 λy H2=>tx σ H2 λz H3=>∃o,cB H3 a y o/\Q (o.getD z) H3
section
variable {X:Cx}{o e f:Expr}{apos cpos:Pos}{td ty tx:TE}
theorem uy (hu:X.A.units+1 < cLine) (ho:PE X o td) (he:PE X e ty) (m:M1 X o "get" apos e cpos):PE X (.Call (.Attribute o "get" apos) [e] [] cpos) (yo td ty):=by
 intro pins s σ H Q I h
 refine wpAny_Call_method m.base m.few m.line PySem.F.plainAttrs_dict PySem.F.slot_dict_get PySem.F.type_dict_get (thn (ho pins s σ H _ I h) λu s1 ⟨x,H1,I1,rx,a,ex,d,q1⟩=>?_)
 subst ex
 obtain rfl:u=Value.ref a:=rx
 obtain⟨t1,t2,_⟩:=vn I1 d
 refine⟨t1,t2,?_⟩
 rw [m.trees]
 refine Calls.callWith_builtin rfl (Calls.evalArgs_plain (Calls.spliced_cons (thn (he pins s1 σ H1 _ I1 q1) λiv s2 ⟨y,H2,I2,ry,ov,g,q2⟩=>Calls.spliced_nil ?_)))
 exact zL hu I2 g ry λw' s3 I3 rw'=>⟨_,H2,I3,rw',q2⟩
theorem ux (hu:X.A.units+1 < cLine) (ho:PE X o td) (he:PE X e ty) (hf:PE X f tx) (m:M2 X o "get" apos e f cpos):PE X (.Call (.Attribute o "get" apos) [e,f] [] cpos) (ym td ty tx):=by
 intro pins s σ H Q I h
 refine wpAny_Call_method m.base m.few m.line PySem.F.plainAttrs_dict PySem.F.slot_dict_get PySem.F.type_dict_get (thn (ho pins s σ H _ I h) λu s1 ⟨x,H1,I1,rx,a,ex,d,q1⟩=>?_)
 subst ex
 obtain rfl:u=Value.ref a:=rx
 obtain⟨t1,t2,_⟩:=vn I1 d
 refine⟨t1,t2,?_⟩
 rw [m.trees]
 refine Calls.callWith_builtin rfl (Calls.evalArgs_plain (Calls.spliced_cons (thn (he pins s1 σ H1 _ I1 q1) λiv s2 ⟨y,H2,I2,ry,q2⟩=>
  Calls.spliced_cons (thn (hf pins s2 σ H2 _ I2 q2) λfv s3 ⟨z,H3,I3,rz,ov,g,q3⟩=>Calls.spliced_nil ?_))))
 exact zK hu I3 g ry rz λw' s4 I4 rw'=>⟨_,H3,I4,rw',q3⟩
end
section
variable {X:Cx}{pins:List (Addr × Obj)}{σ:St}{H:Hp}{s:Shared}{a:Addr}{kvs:List (Key × V)}{A:Around}{E:Value->Shared->Prop}
end
section
variable {X:Cx}{pins:List (Addr × Obj)}{σ:St}{H:Hp}{s:Shared}{a:Addr}{y:V}{u:Value}{A:Around}{E:Value->Shared->Prop}
end
end L2
namespace Att
open PySem PySem.W PySem.Calls PyProof.Rows
theorem iS {P:Params}{h:Heap}:∀(ns:List Int) (vs:List Value),WellAll P h vs (ns.map WData.int)->IntsAre vs ns:=by
 intro ns
 induction ns with
 | nil=>
  intro vs w
  rw [List.map_nil]at w
  cases w
  exact .nil
 | cons n ns ih=>
  intro vs w
  rw [List.map_cons]at w
  cases w with
  | cons a b=>
   cases a
   exact .cons _ _ (ih _ b)
theorem rj {l:OpenLaw}{n:Nat} (hn:l.most=some n){P:Params}{h:Heap}{args:List WData}{vals:List Value}
  (hpre:l.row.toRowW.claim.pre args=true) (hwl:WellAll P h vals args) :
  ∃a vs ns,vals=[Value.ref a]/\args=[WData.list (ns.map WData.int)]/\h.get? a=some { cls:=.type "list", data:=.seq vs.toArray }/\IntsAre vs ns/\ns.length<=n:=by
 have hsh:WShape.hasAll [] args [.list .int]=true:=(pre_splitW hpre).1
 have hc:l.pre.holds [] { args:=args }=true:=(pre_splitW hpre).2
 obtain⟨d,r,rfl,h1,h2⟩:=hasAllW_cons hsh
 obtain rfl:=hasAllW_nil h2
 obtain⟨xs,rfl,h3⟩:=hasW_list h1
 obtain⟨ns,rfl⟩:=items_int h3
 have hlen:ns.length<=n:=by
  unfold OpenLaw.pre at hc
  have h4:(WTm.not (.lt (.lit (.int (n:Int))) (.len (.arg 0)))).holds [] { args:=[.list (ns.map .int)] }=true:=by
   have h4:=(holds_andW hc).1
   rw [hn]at h4
   exact h4
  have h5:=condW_of h4 (w_not (w_lt w_lit (w_len_list (w_arg rfl))))
  rw [List.length_map]at h5
  refine Nat.le_of_not_lt λq=>?_
  have q':(n:Int) < ((ns.length:Nat):Int):=by omega
  first
   | (rw [decide_eq_true q']at h5;exact absurd h5 (by decide))
   | (simp at h5;omega)
 cases hwl with
 | cons w1 w2=>
  cases w2
  cases w1 with
  | list ho hall=>exact⟨_,_,ns,rfl,rfl,ho,iS ns _ hall,hlen⟩
theorem rG (l:OpenLaw) (args:List WData):l.row.toRowW.claim.post args (.bool true) args=true:=
 postW_of (r:=l.row.toRowW) (X:=(true == true))
  (show WShape.has [] (.bool true) .bool=true by first | rfl | decide | simp [WShape.has,WShape.arms,WShape.armsAll])
  (show (WTm.eq .res (.lit (.bool true))).value [] { args:=args,res:=some (.bool true),after:=args }=some (.bool (true == true)) from w_eq_bool (w_res rfl) w_lit) rfl
theorem attach_call {l:OpenLaw}{n:Nat}{q:Program}{loose:List Str}{XP:(Str->Option Value)->Heap->Prop}{YP:World->Heap->Prop}{d:DefRec}
  (hn:l.most=some n) (hdf:d.params.defaults=[])
  (call:∀(w:World) (s₀ s₁:Shared) (mg mb:Str->Option Value) (fa:Addr) (o:Obj) (pm cd doc:Value) (a:Addr) (vs:List Value) (ns:List Int),
   Ground q loose [] XP w s₀ mg mb s₁.heap->YP w s₁.heap->
   s₁.heap.get? fa=some o->o.data=.func (docDef d.name d.params d.body d.scope pm cd doc)->s₁.heap.CodeRec cd d.name->mg d.name=some (.ref fa)->
   s₁.heap.get? a=some { cls:=.type "list", data:=.seq vs.toArray }->IntsAre vs ns->ns.length<=n->s₁.gens = #[]->
   codeAny (model l.prog w) callerA (.call (.ref fa) ⟨[.ref a],[]⟩) (λr s'=>r=.ok (.ret (.bool true))/\OldK s₁.heap s'.heap/\s'.os=s₁.os/\AllBare s'.gens) s₁) :
  WalkO q loose XP YP l.row.toRowW d [] (λf vs=>PySem.call f vs):=by
 intro w s₀ s₁ mg mb G Y fa o pm cd doc dV kV ho hd hcd hD hmg hg args vals as hpre hlay hrd hwl hlo
 obtain rfl:dV=.none:=Dflts.none hD hdf
 obtain rfl:kV=.none:=Dflts.noKw hD
 obtain⟨a,vs,ns,rfl,rfl,hobj,hints,hlen⟩:=rj hn hpre hwl
 refine enter_call (codeAny_mono (call w s₀ s₁ mg mb fa o pm cd doc a vs ns G Y ho (fd_plain hd) hcd hmg hobj hints hlen hg) λr s' hq=>?_)
 obtain⟨rfl,h2,h3,h4⟩:=hq
 exact⟨.inl ⟨.bool true,.bool true,[],rfl,λ_=>rfl,.bool true,rG l _,λ_=>⟨List.Pairwise.nil,λ_ hm=>(nomatch hm)⟩⟩,h2,h3,h4⟩
section
variable {prog:Program}{w:World}{A:Around}{E:Value->Shared->Prop}{s:Shared}{K:Frag}
noncomputable def noObjs (h:Heap):Heap:={ h with objs:=#[] }
theorem noObjs_get (h:Heap) (b:Addr):(noObjs h).get? b=none:=by
 cases e:(noObjs h).get? b with
 | none=>rfl
 | some o=>exact absurd (Heap.lt_size e) (Nat.not_lt_zero _)
noncomputable def ledger (h:Heap) (L d:Addr):List (Addr × Obj):=(List.range h.objs.size).filterMap λa=>if a=L\/a=d then none else (h.get? a).map λo=>(a,o)
theorem mem_ledger {h:Heap}{L d a:Addr}{o:Obj}:(a,o)∈ledger h L d↔a≠L/\a≠d/\h.get? a=some o:=by
 unfold ledger
 rw [List.mem_filterMap]
 constructor
 ·rintro⟨b,_,e⟩
  split at e
  ·cases e
  ·rename_i hb
   obtain⟨o',ho,e'⟩:=Option.map_eq_some_iff.mp e
   cases e'
   exact⟨λq=>hb (.inl q),λq=>hb (.inr q),ho⟩
 ·rintro⟨n1,n2,ho⟩
  refine⟨a,List.mem_range.mpr (Heap.lt_size ho),?_⟩
  rw [if_neg (show ¬(a=L\/a=d) from λq=>q.elim n1 n2),ho] <;> rfl
theorem fr_all {h:Heap}{L:Addr}{m:Str->Option Value} (n:h.Ns L m):Fr (noObjs h) L h m:=
 ⟨n,λb o e=>(by rw [noObjs_get]at e;cases e),Nat.zero_le _⟩
end
end Att
namespace L2
open PySem PySem.Spec PyProof.Rows
theorem kD:∀{vs:List Value}{ns:List Int},IntsAre vs ns->aJ (ns.map V.int) vs
 | _,_,.nil=>.nil
 | _,_,.cons n t h=>.cons ⟨t,rfl⟩ (kD h)
noncomputable def ca (s:Stmt) (j:Nat):Stmt:=match s with
 | .ClassDef _ _ _ body _ _ _ _ _ _ _=>body.getD j (.Pass ⟨0,0,0,0⟩)
 | _=>.Pass ⟨0,0,0,0⟩
noncomputable def cC (s:Stmt):Arguments:=match s with
 | .FunctionDef _ a _ _ _ _ _ _ _ _=>a
 | _=>{ posonlyargs:=[],args:=[],vararg:=none,kwonlyargs:=[],kw_defaults:=[],kwarg:=none,defaults:=[] }
noncomputable def bW (s:Stmt):List Stmt:=match s with
 | .FunctionDef _ _ b _ _ _ _ _ _ _=>b
 | _=>[]
noncomputable def al (s:Stmt):Scope:=match s with
 | .FunctionDef _ _ _ _ _ _ sc _ _ _=>sc
 | _=>{ kind:=.function,names:=[],isGenerator:=false,isCoroutine:=false }
noncomputable abbrev CX0:CXT:=λ_ _ _ _ _ _=>False
noncomputable abbrev E0:XK:=λ_ _ _=>False
theorem ao {X:Cx}:eM CX0 X E0:=λ_ _ _ _ _ _ _ h=>h.elim
structure Fun (K:PySem.W.Frag) (x qual:Str) (st:Stmt) (f:Addr) (fd:FuncData):Prop where
 ex:∃(oc:Value) (od:Option Addr) (kV doc pm:Value) (an:Option Addr) (cdv ct:Value) (osl:Array (Option Value)),
  fd=PySem.W.fnOf x qual (cC st) (bW st) (al st) .none kV doc pm an cdv ct/\K.lookup f=some ⟨oc,od,.func fd,osl⟩/\PySem.W.codeIn K cdv qual=true
 kp:PySem.W.keepIn K (.ref f)=true
section
variable {P:Program}{w:World}{K:W.Frag}{mg:Str->Option Value}{base:Heap}
theorem Fun.ok {x qual:Str}{st:Stmt}{f:Addr}{fd:FuncData}{N ps:List Str}{k:Nat}{sp:Sp} (F:Fun K x qual st f fd) (S:FnScope N ps (al st)) (len:∀vs H Q E,sp vs H Q E->vs.length=ps.length)
  (hbody:∀(cdv:Value) (A:Around) (outer:List Env) (s:Shared) (H:Hp) (vs:List V) (Q:VK) (E:XK),Room k (A.deeper (envOfC qual (al st) s.heap.objs.size f cdv))->sp vs H Q E->
   ∃t,PSs (fm CX0 P w K mg base N qual (al st) f cdv A outer s H E).nox (bW st) t/\t { nx:=λ_ H'=>Q .non H',rt:=Q } (dM N vs) H):FnOk P w K mg base CX0 (k+1) f fd ps sp:=by
 obtain⟨oc,od,kV,doc,pm,an,cdv,ct,osl,rfl,lk,hcd⟩:=F.ex
 refine o0 lk hcd S len λA outer s H vs Q E hr hsp=>?_
 obtain⟨t,h,q⟩:=hbody cdv A outer s H vs Q E hr hsp
 exact⟨t,h.nox,q⟩
theorem Fun.binds {x qual:Str}{st:Stmt}{f:Addr}{fd:FuncData}{ps:List Str} (F:Fun K x qual st f fd)
  (h:∀(kV doc pm:Value) (an:Option Addr) (cdv ct:Value) (us:List Value),us.length=ps.length->bindArgs (PySem.W.fnOf x qual (cC st) (bW st) (al st) .none kV doc pm an cdv ct) ⟨us,[]⟩=pure (ps.zip us)):cj K fd ps []:=by
 obtain⟨oc,od,kV,doc,pm,an,cdv,ct,osl,rfl,lk,hcd⟩:=F.ex
 exact .all (h kV doc pm an cdv ct)
theorem fun_mk {x qual:Str}{st:Stmt}{f:Addr}{oc:Value}{od an:Option Addr}{osl:Array (Option Value)}{kV doc pm cdv ct:Value} (l:K.lookup f=some ⟨oc,od,.func (PySem.W.fnOf x qual (cC st) (bW st) (al st) .none kV doc pm an cdv ct),osl⟩)
  (c:PySem.W.codeIn K cdv qual=true) (k:PySem.W.keepIn K (.ref f)=true):Fun K x qual st f (PySem.W.fnOf x qual (cC st) (bW st) (al st) .none kV doc pm an cdv ct):=⟨⟨oc,od,kV,doc,pm,an,cdv,ct,osl,rfl,l,c⟩,k⟩
end
theorem aS {A:Around}{k:Nat} (hr:Room k A):A.units+1 < cLine:=Nat.lt_of_le_of_lt (Nat.add_le_add_left (by decide:1<=64) _) hr.units
theorem bo {n:Nat} (h:n<=1000):n < sizeLine:=Nat.lt_of_le_of_lt h (by decide)
section
variable {X:Cx}
theorem pv (i:Nat){x:Str}{pos:Pos} (hN:X.N[i]?=some x:=by rfl) (hv:Vis X.env.scope x:=by first | exact Or.inl rfl | exact Or.inr (Or.inl rfl) | exact Or.inr (Or.inr rfl)) (hd:(x == ("__debug__" : Str))=false:=by decide)
  (hcd:(x == ("__classdict__" : Str))=false:=by decide):PE X (.Name x pos) (eG i):=yU hN hv hd hcd
end
theorem b9 {A B:Prop} (h:B):if false=true then A else B:=by
 rw [if_neg Bool.false_ne_true]
 exact h
theorem bT {A B:Prop} (h:A):if true=true then A else B:=by
 rw [if_pos rfl]
 exact h
theorem fM {c A B:Prop} [Decidable c] (h1:c->A) (h2:¬c->B):if c then A else B:=by
 by_cases h:c
 ·rw [if_pos h]
  exact h1 h
 ·rw [if_neg h]
  exact h2 h
section
variable {κ:Type} [DecidableEq κ]
end
end L2
set_option maxHeartbeats 4000000
namespace L2
open PySem PySem.Spec PyProof.Rows
section
variable {X:Cx}{pins:List (Addr × Obj)}{σ:St}{H:Hp}{s:Shared}{h':Heap}
theorem Inv.table {P:Addr}{ps more:Array Value}{t':Nat} (I:Inv X pins σ H s) (e:H P=some (.tbl ps)) (k:∀b o,b≠P->s.heap.get? b=some o->h'.get? b=some o)
  (hP:h'.get? P=some { cls:=.none,data:=.fields (ps++more) }):Inv X pins σ (upd H P (.tbl (ps++more))) { s with heap:=h',toks:=t' }:=by
 have nP:∀b,H b=none->b≠P:=λb n z=>by rw [z,e]at n;cases n
 refine I.un ⟨λb o q n _ _=>k b o (nP b n) q,λb o q n _ _=>⟨o.slots,k b o (nP b n) q⟩,λb o q n _=>by rw [ag (nP b n)];exact n,λb o q _=>?_,λb xs q=>?_,λb o u q=>?_,λb qs q=>?_⟩ λb u q=>?_
 ·by_cases z:b=P
  ·exact⟨_,by rw [z];exact hP⟩
  ·exact⟨o,k b o z q⟩
 ·rw [ag (aD q e (by intro z;cases z))];exact q
 ·rw [ag (aD q e (by intro z;cases z))];exact q
 ·by_cases z:b=P
  ·subst z;rw [e]at q;cases q;exact⟨more,ae⟩
  ·exact⟨#[],by rw [ag z,q];simp⟩
 ·by_cases z:b=P
  ·subst z;rw [ae]at q;cases q;exact hP
  ·rw [ag z]at q
   refine(I.hok b u q).stay (λc v hc r=>k c v ?_ r) (λc r=>by rw [ag (aD r e (by intro z;cases z))];exact r) λc xs r=>by rw [ag (aD r e (by intro z;cases z))];exact r
   rcases hc with hc | hc
   ·rw [hc];exact z
   ·exact aD hc e (by intro z;cases z)
theorem Inv.track {a:Addr}{o:HO} (I:Inv X pins σ H s) (hs:X.s₀.heap.objs.size<=a) (f:gN X pins H a) (new:br X.prog X.w (upd H a o) s.heap a o):Inv X pins σ (upd H a o) s:=by
 obtain⟨hn,hL,hfs,_,hcl,hpn⟩:=f
 have ne:∀b u,H b=some u->b≠a:=λb u q=>af q hn
 refine⟨I.ok,I.os,I.bare,⟨I.base.keep,I.base.slot,λb ob q n hx=>?_,I.base.there,λb xs q=>?_,λb ob u q=>?_,λb ps q=>?_⟩,I.loc,I.cell,?_,λx c q=>?_,λp hp=>?_,λb u q=>?_,I.len⟩
 ·rw [ag (Nat.ne_of_lt (Nat.lt_of_lt_of_le (Heap.lt_size q) hs))];exact I.base.free b ob q n hx
 ·have r:=I.base.tups b xs q
  rw [ag (ne b _ r)];exact r
 ·have r:=I.base.frzs b ob u q
  rw [ag (ne b _ r)];exact r
 ·obtain⟨m,r⟩:=I.base.tbls b ps q
  exact⟨m,by rw [ag (ne b _ r)];exact r⟩
 ·rw [ag (Ne.symm hL)];exact I.free
 ·rw [ag (hcl x c q)];exact I.freeC x c q
 ·obtain⟨e,n,r⟩:=I.pin p hp
  exact⟨e,by rw [ag (hpn p hp)];exact n,r⟩
 ·by_cases z:b=a
  ·subst z;rw [ae]at q;cases q;exact new
  ·rw [ag z]at q
   exact(I.hok b u q).stay (λ_ _ _ r=>r) (λc r=>by rw [ag (ne c _ r)];exact r) λc xs r=>by rw [ag (ne c _ r)];exact r
end
noncomputable def bK (c:Addr) (q:Str):Heap->Prop:=λh=>h.CodeRec (.ref c) q
theorem bK.st {c:Addr}{q:Str}{h1 h2:Heap} (x:bK c q h1) (k:∀o,h1.get? c=some o->h2.get? c=some o):bK c q h2:=by
 obtain⟨c',o,vs,t,e,g,r⟩:=x
 cases e
 exact⟨c,o,vs,t,rfl,k o g,r⟩
theorem bK.obj {c:Addr}{q:Str}{h:Heap} (x:bK c q h):∃o,h.get? c=some o:=by
 obtain⟨c',o,vs,t,e,g,r⟩:=x
 cases e
 exact⟨o,g⟩
noncomputable def mI (f:Addr) (params:Arguments) (body:Expr) (scope:Scope) (q:Str) (c:Addr):Heap->Prop:=λh=>∃pm ctv,h.get? f=some (PySem.W.kla_obj "<lambda>" q params body scope [] pm c ctv)
theorem mI.st {f:Addr}{params:Arguments}{body:Expr}{scope:Scope}{q:Str}{c:Addr}{h1 h2:Heap} (x:mI f params body scope q c h1) (k:∀o,h1.get? f=some o->h2.get? f=some o):mI f params body scope q c h2:=by
 obtain⟨pm,ctv,e⟩:=x
 exact⟨pm,ctv,k _ e⟩
def dI (P:Addr) (pos:Pos) (q:Str) (H:Hp):Prop:=
 H P=some (.tbl #[])\/∃c,H P=some (.tbl #[rawInt pos.line,rawInt pos.col,.ref c])/\H c=some (.ext (bK c q))
theorem dI.tbl {P:Addr}{pos:Pos}{q:Str}{H:Hp} (L:dI P pos q H):∃ps,H P=some (.tbl ps):=by
 rcases L with L | ⟨c,L,_⟩
 ·exact⟨_,L⟩
 ·exact⟨_,L⟩
structure Go (P:Addr) (pos:Pos) (q:Str) (H H':Hp):Prop where
 same:∀b o,b≠P->H b=some o->H' b=some o
 lam:dI P pos q H'
theorem Go.refl {P:Addr}{pos:Pos}{q:Str}{H:Hp} (L:dI P pos q H):Go P pos q H H:=⟨λ_ _ _ e=>e,L⟩
theorem Go.trans {P:Addr}{pos:Pos}{q:Str}{H H1 H2:Hp} (a:Go P pos q H H1) (b:Go P pos q H1 H2):Go P pos q H H2:=⟨λc o n e=>b.same c o n (a.same c o n e),b.lam⟩
theorem Go.at {P:Addr}{pos:Pos}{q:Str}{H H':Hp} (G:Go P pos q H H') (L:dI P pos q H){b:Addr}{o:HO} (e:H b=some o) (n:∀ps,o≠.tbl ps):H' b=some o:=by
 obtain⟨ps,eP⟩:=L.tbl
 exact G.same b o (aD e eP (n ps)) e
theorem dI.upd_new {P:Addr}{pos:Pos}{q:Str}{H:Hp} (L:dI P pos q H){a:Addr}{o:HO} (hn:H a=none):dI P pos q (upd H a o):=by
 rcases L with L | ⟨c,L,Lc⟩
 ·exact .inl (by rw [ag (af L hn)];exact L)
 ·exact .inr ⟨c,by rw [ag (af L hn)];exact L,by rw [ag (af Lc hn)];exact Lc⟩
theorem Go.new {P:Addr}{pos:Pos}{q:Str}{H:Hp} (L:dI P pos q H){a:Addr}{o:HO} (hn:H a=none):Go P pos q H (upd H a o):=
 ⟨λb u _ e=>by rw [ag (af e hn)];exact e,L.upd_new hn⟩
theorem dI.upd_own {P:Addr}{pos:Pos}{q:Str}{H:Hp} (L:dI P pos q H){a:Addr}{o u:HO} (ha:H a=some u) (n1:∀ps,u≠.tbl ps) (n2:∀φ,u≠.ext φ):dI P pos q (upd H a o):=by
 rcases L with L | ⟨c,L,Lc⟩
 ·exact .inl (by rw [ag (aD L ha (n1 _).symm)];exact L)
 ·exact .inr ⟨c,by rw [ag (aD L ha (n1 _).symm)];exact L,by rw [ag (aD Lc ha (n2 _).symm)];exact Lc⟩
noncomputable def AY (P:Addr) (pos:Pos) (q:Str) (params:Arguments) (body:Expr) (scope:Scope):TE:=λ_ H Q=>dI P pos q H/\
 ∀H' f c,Go P pos q H H'->H f=none->H' c=some (.ext (bK c q))->H' f=some (.ext (mI f params body scope q c))->Q (.ref f) H'
section
variable {X:Cx}
theorem yV {params:Arguments}{body:Expr}{scope:Scope}{pos:Pos}{c P:Addr} (hcd:X.env.code=.ref c) (hC:PySem.W.CodeHd X.base c P) (hB:X.base.BuiltinsAt X.mg P)
  (hdef:defaultsOf params X.env=([],[])) (hcl:closureFor scope X.env=pure []):PE X (.Lambda params body scope pos) (AY P pos (X.env.qual++"<lambda>") params body scope):=by
 intro pins s σ H Q I hh
 obtain⟨L,h⟩:=hh
 refine PySem.W.kla_eval hdef ?_
 have hg:s.heap.Ns mainGlobals X.mg:=I.ok.mod.glob.keeps I.bk
 have hgP:mainGlobals≠P:=λz=>by
  obtain⟨o,es,ep,e,_⟩:=I.ok.mod.glob
  have n:=(I.bs _ _ e).2
  obtain⟨ps,eP⟩:=L.tbl
  rw [z,eP]at n
  cases n
 rcases L with L | ⟨c1,L,Lc⟩
 ·have hP:s.heap.get? P=some (PySem.W.tabObj #[]):=I.hok P _ L
  have hPlt:P < s.heap.objs.size:=Heap.lt_size hP
  refine PySem.W.kla_makeFunction hcl I.ok.glob hg hcd (hC.keeps I.bk) hP trivial rfl hgP (hB.keeps I.bk) λc' ctv h' tk hx hge hlt hrec htb=>?_
  have fge:s.heap.objs.size<=h'.objs.size:=Nat.le_trans hge (Nat.le_of_lt hlt)
  have nc:H c'=none:=I.hok.fresh hge
  have nf:H h'.objs.size=none:=I.hok.fresh fge
  have cP:c'≠P:=Nat.ne_of_gt (Nat.lt_of_lt_of_le hPlt hge)
  have fP:h'.objs.size≠P:=Nat.ne_of_gt (Nat.lt_of_lt_of_le hPlt fge)
  have cf:c'≠h'.objs.size:=Nat.ne_of_lt hlt
  have I1:=I.table (h':=h'.push (PySem.W.kla_obj "<lambda>" (X.env.qual++"<lambda>") params body scope [] ((X.mg "__name__").getD .none) c' ctv)) (more:=#[rawInt pos.line,rawInt pos.col,.ref c']) (t':=tk) L
   (λb o z q=>zH0 _ (hx b o z q)) (zH0 _ htb)
  have e0:(#[]:Array Value)++#[rawInt pos.line,rawInt pos.col,.ref c'] = #[rawInt pos.line,rawInt pos.col,.ref c']:=by simp
  rw [e0]at I1
  have rec':bK c' (X.env.qual++"<lambda>") (h'.push (PySem.W.kla_obj "<lambda>" (X.env.qual++"<lambda>") params body scope [] ((X.mg "__name__").getD .none) c' ctv)):=
   bK.st (show bK c' _ h' from hrec) λo q=>zH0 _ q
  have I2:=I1.track (a:=c') (o:=.ext (bK c' (X.env.qual++"<lambda>"))) (Nat.le_trans I.sz hge) (I.fpOk hge (by rw [ag cP];exact nc)) ⟨rec',rec'.obj,λh1 h2 x k=>x.st k⟩
  have fn':mI h'.objs.size params body scope (X.env.qual++"<lambda>") c' (h'.push (PySem.W.kla_obj "<lambda>" (X.env.qual++"<lambda>") params body scope [] ((X.mg "__name__").getD .none) c' ctv)):=⟨_,_,Heap.get?_push_size _ rfl⟩
  have I3:=I2.track (a:=h'.objs.size) (o:=.ext (mI h'.objs.size params body scope (X.env.qual++"<lambda>") c')) (Nat.le_trans I.sz fge)
   (I.fpOk fge (by rw [ag cf.symm,ag fP];exact nf)) ⟨fn',⟨_,Heap.get?_push_size _ rfl⟩,λh1 h2 x k=>x.st k⟩
  refine⟨.ref h'.objs.size,_,I3,rfl,h _ _ c' ⟨λb o z q=>?_,.inr ⟨c',?_,?_⟩⟩ nf ?_ ae⟩
  ·rw [ag (af q nf),ag (af q nc),ag z];exact q
  ·rw [ag fP.symm,ag cP.symm,ae]
  ·rw [ag cf,ae]
  ·rw [ag cf,ae]
 ·have hP:s.heap.get? P=some (PySem.W.tabObj #[rawInt pos.line,rawInt pos.col,.ref c1]):=I.hok P _ L
  refine PySem.W.kla_makeFunctionHit (cv:=.ref c1) hcl I.ok.glob hg hcd (hC.keeps I.bk) hP (by simp [TriplesOk,rawInt]) (by simp [codeAmong,rawInt]) (hB.keeps I.bk) λctv h' tk hk hsz=>?_
  have nf:H h'.objs.size=none:=I.hok.fresh hsz
  have fn':mI h'.objs.size params body scope (X.env.qual++"<lambda>") c1 (h'.push { cls:=.type "function", data:=.func (PySem.W.kla_fn "<lambda>" (X.env.qual++"<lambda>") params body scope [] ((X.mg "__name__").getD .none) (.ref c1) ctv) }):=⟨_,_,Heap.get?_push_size _ rfl⟩
  have I1:=I.laid (a:=h'.objs.size) (o:=.ext (mI h'.objs.size params body scope (X.env.qual++"<lambda>") c1)) (t':=tk) (λb u q=>zH0 _ (hk b u q)) hsz ⟨fn',⟨_,Heap.get?_push_size _ rfl⟩,λh1 h2 x k=>x.st k⟩
  refine⟨.ref h'.objs.size,_,I1,rfl,h _ _ c1 (Go.new (.inr ⟨c1,L,Lc⟩) nf) nf ?_ ae⟩
  rw [ag (af Lc nf)];exact Lc
end
section
variable {prog:Program}{w:World}{A:Around}{E:Value->Shared->Prop}{s:Shared}
theorem vg {f c p:Addr}{k:Int}{t:Tok}{r:List Value}{pa p1 p2 p3:Pos}{j:Nat}{q:Str}{pm ctv:Value}{scope:Scope}{Q:Value->Shared->Prop}
  (hA:A.depth < recursionLimit)
  (hf:s.heap.get? f=some (PySem.W.kla_obj "<lambda>" q { posonlyargs:=[],args:=[{ arg:="row", annotation:=none,pos:=pa }],vararg:=none,kwonlyargs:=[],kw_defaults:=[],kwarg:=none,defaults:=[] }
   (.Subscript (.Name "row" p1) (.Constant (.int 0) j p2) p3) scope [] pm c ctv))
  (hsc:scope.kind=.function) (hsn:scope.names=[(PySem.Str.ofString "row", .local)]) (hsg:scope.isGenerator=false) (hsco:scope.isCoroutine=false)
  (hc:s.heap.CodeRec (.ref c) q) (hp:IsTup s.heap p (Value.int k t::r).toArray) (hr:r.length < 1000) (lim:s.heap.NoLimit)
  (hq:∀h₁ tk,(∀b o,s.heap.get? b=some o->h₁.get? b=some o)->Q (.int k t) { s with heap:=h₁,toks:=tk }) :
  wpAny (model prog w) A (call (.ref f) [.ref p]) Q E s:=by
 refine wpAny_call (PySem.W.kla_callFunE hA hf rfl hsco hsg rfl hc ?_)
 have hb:∀(pm' cdv ctv':Value),bindArgs (PySem.W.kla_fn "<lambda>" q { posonlyargs:=[],args:=[{ arg:="row", annotation:=none,pos:=pa }],vararg:=none,kwonlyargs:=[],kw_defaults:=[],kwarg:=none,defaults:=[] }
   (.Subscript (.Name "row" p1) (.Constant (.int 0) j p2) p3) scope [] pm' cdv ctv') ⟨[.ref p],[]⟩=(pure [(("row" : Str),Value.ref p)]:Sem (List (Str × Value))):=λ_ _ _=>rfl
 rw [hb]
 refine zP0 (wpAny_newFunctionEnv (by rw [hsn];intro y hy;rw [List.mem_singleton.mp hy];intro z;cases z) (by rw [hsn];intro y hy;rw [List.mem_singleton.mp hy];rfl) (λh₁ hns hsb=>⟨lim.fresh _ hsb,?_⟩) hsc)
 have keep:∀b o,s.heap.get? b=some o->h₁.get? b=some o:=λb o e=>(hsb.2 b (Nat.ne_of_lt (Heap.lt_size e))).trans (zH0 _ e)
 refine PySem.W.kla_codeExpr ?_
 refine Subscript_ (wpAny_Name (wpAny_loadName_local hsc (by show scope.names.lookup _=_;rw [hsn];rfl) hns rfl ?_) (by decide))
 refine wpAny_Constant_int ?_
 have hp1:IsTup h₁ p (Value.int k t::r).toArray:=by
  obtain⟨o,e,rest⟩:=hp
  exact⟨o,keep _ _ e,rest⟩
 refine subscriptTail_builtinR (x:=.int k t) (T:="tuple") hp1.typeIs slot_tuple_getitem.lookup ?_ rfl
 refine getItem_tuple (j:=0) hp1 (by decide) (by decide) ?_ (by simp) ⟨rfl,hq h₁ _ keep⟩
 simp [seqIndex?]
end
class Rk where
 rk:Value->Int
 kd:SortKind
 ok:Value->Prop
class RkOk (prog:Program) (w:World) (A:Around) (s:Shared) extends Rk where
 lt:∀(x y:Value) (E:Value->Shared->Prop) (R:Bool->Shared->Prop),ok x->ok y->R (decide (rk x < rk y)) s->wpAny (model prog w) A (keyLt' kd x y) R E s
noncomputable def Kr [Rk] (xs:Array Keyed) (i:Nat):Int:=match xs[i]? with
 | some p=>Rk.rk p.1
 | none=>0
def AS [Rk] (xs:Array Keyed) (k:Nat):Prop:=∀i j,i<=j->j < k->Kr xs i<=Kr xs j
def dX [Rk] (xs:Array Keyed):Prop:=∀p,p∈xs.toList->Rk.ok p.1
theorem dY [Rk] {xs ys:Array Keyed}{i j:Nat} (h:xs[i]?=ys[j]?):Kr xs i=Kr ys j:=by unfold Kr;rw [h]
theorem iF [Rk] {xs:Array Keyed}{src d:Nat} (hs:src < xs.size) (hd:d<=src) (k:Nat) :
  Kr (bubble xs src d) k=if k=src - d then Kr xs src else if src - d < k/\k<=src then Kr xs (k - 1) else Kr xs k:=by
 have e:=getElem?_bubble hs d hd k
 by_cases h1:k=src - d
 ·rw [if_pos h1]at e ⊢;exact dY e
 ·rw [if_neg h1]at e ⊢
  by_cases h2:src - d < k/\k<=src
  ·rw [if_pos h2]at e ⊢;exact dY e
  ·rw [if_neg h2]at e ⊢;exact dY e
theorem gh [Rk] {xs:Array Keyed}{i j:Nat} (hj:j<=xs.size) (k:Nat) :
  Kr (mirror xs i j ((j - i) / 2)) k=if i<=k/\k < j then Kr xs (i+j - 1 - k) else Kr xs k:=by
 have e:=getElem?_mirror_all (i:=i) hj k
 by_cases h1:i<=k/\k < j
 ·rw [if_pos h1]at e ⊢;exact dY e
 ·rw [if_neg h1]at e ⊢;exact dY e
theorem bM [Rk] {xs:Array Keyed}{i j:Nat} (hj:j<=xs.size) (heq:∀k,i<=k->k < j->Kr xs k=Kr xs (j - 1)) (k:Nat) :
  Kr (mirror xs i j ((j - i) / 2)) k=Kr xs k:=by
 rw [gh hj]
 split
 ·rw [heq _ ‹1› ‹1›,heq k ‹1› ‹1›]
 ·rfl
noncomputable def ja:Bool->Keyed->Array Keyed->Nat->Nat->Nat->StateT SortSt Sem (Option Nat):=sortPriv% PySem.Builtin.gallop
section
variable {prog:Program}{w:World}{A:Around}{E:Value->Shared->Prop}{s:Shared}
theorem nV [RkOk prog w A s] {st:SortSt}{x y:Value}{c d:Int}{p q:Value}{R:Option Bool->SortSt->Prop} (hk:kindOf st=Rk.kd) (hx:Rk.rk x=c/\Rk.ok x) (hy:Rk.rk y=d/\Rk.ok y) (h:R (some (decide (c < d))) st):wpS (model prog w) A E s (lt' (x,p) (y,q)) R st:=by
 rw [lt'_eq]
 refine wpS_bind (wpS_get ?_)
 rw [hk]
 refine wpS_bind (wpS_lift (wpAny_attempt (RkOk.lt x y _ _ hx.2 hy.2 ⟨rfl,?_⟩)))
 rw [hx.1,hy.1]
 exact wpS_pure h
theorem ya {st:SortSt}{n:Nat} (β:Nat->Bool){lo hi:Nat}{Q:(Option (Option Nat) × Nat × Nat)->SortSt->Prop}{F:Nat->(Option (Option Nat) × Nat × Nat)->StateT SortSt Sem (ForInStep (Option (Option Nat) × Nat × Nat))}
  (mono:∀i j,i<=j->j < n->β j=true->β i=true)
  (stop:∀x lo hi {R:ForInStep (Option (Option Nat) × Nat × Nat)->SortSt->Prop},hi<=lo->R (.done (none,lo,hi)) st->wpS (model prog w) A E s (F x (none,lo,hi)) R st)
  (up:∀x lo hi {R:ForInStep (Option (Option Nat) × Nat × Nat)->SortSt->Prop},lo < hi->hi<=n->β (lo+(hi - lo) / 2)=true->R (.yield (none,lo+(hi - lo) / 2+1,hi)) st->wpS (model prog w) A E s (F x (none,lo,hi)) R st)
  (dn:∀x lo hi {R:ForInStep (Option (Option Nat) × Nat × Nat)->SortSt->Prop},lo < hi->hi<=n->β (lo+(hi - lo) / 2)=false->R (.yield (none,lo,lo+(hi - lo) / 2)) st->wpS (model prog w) A E s (F x (none,lo,hi)) R st)
  (h1:lo<=hi) (h2:hi<=n) (h3:∀i,i < lo->β i=true) (h4:∀i,hi<=i->i < n->β i=false)
  (h:∀k,k<=n->(∀i,i < k->β i=true)->(∀i,k<=i->i < n->β i=false)->Q (none,k,k) st):wpS (model prog w) A E s (forIn [:n] (none,lo,hi) F) Q st:=by
 refine wpS_forRange (I:=λi c st'=>st'=st/\∃lo hi,c=(none,lo,hi)/\lo<=hi/\hi<=n/\hi - lo<=n - i/\(∀j,j < lo->β j=true)/\(∀j,hi<=j->j < n->β j=false)) ?_ ?_ ⟨rfl,lo,hi,rfl,h1,h2,by omega,h3,h4⟩
 ·rintro i c st' _ hi' ⟨rfl,lo,hi,rfl,g1,g2,g3,g4,g5⟩
  by_cases hl:hi<=lo
  ·have e:lo=hi:=by omega
   subst e
   exact stop _ _ _ hl (h lo g2 g4 g5)
  ·have l:lo < hi:=by omega
   cases e:β (lo+(hi - lo) / 2) with
   | true=>exact up _ _ _ l g2 e ⟨rfl,_,_,rfl,by omega,g2,by omega,λj hj=>mono j _ ‹1› ‹1› e,g5⟩
   | false=>
    refine dn _ _ _ l g2 e ⟨rfl,_,_,rfl,by omega,by omega,by omega,g4,λj hj hn=>?_⟩
    cases ej:β j with
    | false=>rfl
    | true=>rw [mono _ j hj hn ej]at e;exact absurd e (by decide)
 ·rintro c st' ⟨rfl,lo,hi,rfl,g1,g2,g3,g4,g5⟩
  have e:lo=hi:=by omega
  subst e
  exact h lo g2 g4 g5
theorem jR {st:SortSt}{Q:Option Nat->SortSt->Prop}{left:Bool}{arr:Array Keyed}{key:Keyed}{base n hint:Nat} (β:Nat->Bool) (hh:hint < n)
  (bey:∀(i:Nat){R:Option Bool->SortSt->Prop},i < n->R (some (β i)) st->wpS (model prog w) A E s (do let x <- elem' arr (base+i);if left=true then lt' x key else (do let r <- lt' key x;pure (Option.map (λb=>!b) r))) R st)
  (mono:∀i j,i<=j->j < n->β j=true->β i=true)
  (h:∀k,k<=n->(∀i,i < k->β i=true)->(∀i,k<=i->i < n->β i=false)->Q (some k) st):wpS (model prog w) A E s (ja left key arr base n hint) Q st:=by
 have dmono:∀i j,i<=j->j < n->β i=false->β j=false:=λi j hij hj e=>by
  cases ej:β j with
  | false=>rfl
  | true=>rw [mono i j hij hj ej]at e;exact absurd e (by decide)
 unfold ja
 k_delta "gallop"
 dsimp only
 refine wpS_bind (bey hint hh ?_)
 dsimp only
 cases eh:β hint with
 | true=>
  rw [if_pos rfl]
  refine wpS_bind (wpS_mono (wpS_forRange (I:=λi c st'=>st'=st/\∃last ofs,c=(none,last,ofs)/\last < ofs/\i < ofs/\hint+last < n/\β (hint+last)=true)
   (Q:=λc st'=>st'=st/\∃last ofs,c=(none,last,ofs)/\last < ofs/\hint+last < n/\β (hint+last)=true/\(hint+ofs < n->β (hint+ofs)=false)) ?step ?fin ⟨rfl,0,1,rfl,by omega,by omega,by omega,eh⟩) ?post)
  case fin=>
   rintro c st' ⟨rfl,last,ofs,rfl,a1,a2,a3,a4⟩
   exact⟨rfl,last,ofs,rfl,a1,a3,a4,λ_=>by omega⟩
  case step=>
   rintro i c st' _ hi ⟨rfl,last,ofs,rfl,a1,a2,a3,a4⟩
   dsimp only
   by_cases hm:ofs>=n - hint
   ·rw [if_pos hm]
    exact wpS_pure ⟨rfl,last,ofs,rfl,a1,a3,a4,λ_=>by omega⟩
   ·rw [if_neg hm]
    refine wpS_bind (bey (hint+ofs) ‹1› ?_)
    dsimp only
    cases eo:β (hint+ofs) with
    | true=>
     rw [if_neg (by decide)]
     exact wpS_pure ⟨rfl,ofs,2 * ofs+1,rfl,by omega,by omega,by omega,eo⟩
    | false=>
     rw [if_pos (show (!false)=true from rfl)]
     exact wpS_pure ⟨rfl,last,ofs,rfl,a1,a3,a4,λ_=>eo⟩
  case post=>
   rintro c st' ⟨rfl,last,ofs,rfl,a1,a3,a4,a5⟩
   dsimp only
   refine wpS_bind (ya β mono (λx lo hi R hl r=>?_) (λx lo hi R hl hn e r=>?_) (λx lo hi R hl hn e r=>?_) ‹1› ‹1› (λi hi=>mono i (hint+last) ‹1› a3 a4) (λi hi hn=>?_) λk k1 k2 k3=>?_)
   ·dsimp only
    rw [if_pos hl]
    exact wpS_pure r
   ·dsimp only
    rw [if_neg ‹1›]
    refine wpS_bind (bey _ ‹1› ?_)
    rw [e]
    exact wpS_pure r
   ·dsimp only
    rw [if_neg ‹1›]
    refine wpS_bind (bey _ ‹1› ?_)
    rw [e]
    exact wpS_pure r
   ·exact dmono (hint+ofs) i ‹1› hn (a5 ‹1›)
   ·exact wpS_pure (h k k1 k2 k3)
 | false=>
  rw [if_neg (by decide)]
  refine wpS_bind (wpS_mono (wpS_forRange (I:=λi c st'=>st'=st/\∃last ofs,c=(none,last,ofs)/\last < ofs/\i < ofs/\last<=hint/\β (hint - last)=false)
   (Q:=λc st'=>st'=st/\∃last ofs,c=(none,last,ofs)/\last < ofs/\last<=hint/\β (hint - last)=false/\(ofs<=hint->β (hint - ofs)=true)) ?step ?fin ⟨rfl,0,1,rfl,by omega,by omega,by omega,eh⟩) ?post)
  case fin=>
   rintro c st' ⟨rfl,last,ofs,rfl,a1,a2,a3,a4⟩
   exact⟨rfl,last,ofs,rfl,a1,a3,a4,λ_=>by omega⟩
  case step=>
   rintro i c st' _ hi ⟨rfl,last,ofs,rfl,a1,a2,a3,a4⟩
   dsimp only
   by_cases hm:ofs>=hint+1
   ·rw [if_pos hm]
    exact wpS_pure ⟨rfl,last,ofs,rfl,a1,a3,a4,λ_=>by omega⟩
   ·rw [if_neg hm]
    refine wpS_bind (bey (hint - ofs) ‹1› ?_)
    dsimp only
    cases eo:β (hint - ofs) with
    | false=>
     rw [if_neg (by decide)]
     exact wpS_pure ⟨rfl,ofs,2 * ofs+1,rfl,by omega,by omega,by omega,eo⟩
    | true=>
     rw [if_pos rfl]
     exact wpS_pure ⟨rfl,last,ofs,rfl,a1,a3,a4,λ_=>eo⟩
  case post=>
   rintro c st' ⟨rfl,last,ofs,rfl,a1,a3,a4,a5⟩
   dsimp only
   refine wpS_bind (ya β mono (λx lo hi R hl r=>?_) (λx lo hi R hl hn e r=>?_) (λx lo hi R hl hn e r=>?_) ‹1› ‹1› (λi hi=>?_) (λi hi hn=>dmono (hint - last) i hi hn a4) λk k1 k2 k3=>?_)
   ·dsimp only
    rw [if_pos hl]
    exact wpS_pure r
   ·dsimp only
    rw [if_neg ‹1›]
    refine wpS_bind (bey _ ‹1› ?_)
    rw [e]
    exact wpS_pure r
   ·dsimp only
    rw [if_neg ‹1›]
    refine wpS_bind (bey _ ‹1› ?_)
    rw [e]
    exact wpS_pure r
   ·exact mono i (hint - ofs) ‹1› ‹1› (a5 ‹1›)
   ·exact wpS_pure (h k k1 k2 k3)
end
structure SG [Rk] (a₀:Array Keyed) (p:Array (Nat × Nat × Nat)) (st:SortSt):Prop where
 pm:(arrOf st).Perm a₀
 kd:kindOf st=Rk.kd
 fl:failedOf st=none
 pd:pendingOf st=p
theorem SG.sz [Rk] {a₀ p st} (g:SG a₀ p st):(arrOf st).size=a₀.size:=g.pm.size_eq
theorem SG.arr [Rk] {a₀ p st} (g:SG a₀ p st){xs:Array Keyed} (hp:xs.Perm (arrOf st)):SG a₀ p (setArr st xs):=⟨hp.trans g.pm,g.kd,g.fl,g.pd⟩
theorem SG.get [Rk] {a₀ p st} (g:SG a₀ p st) (h0:dX a₀){i:Nat} (hi:i < a₀.size):∃t q,(arrOf st)[i]?=some (t,q)/\Rk.rk t=Kr (arrOf st) i/\Rk.ok t:=by
 have hi':i < (arrOf st).size:=by rw [g.sz];exact hi
 have hn:=h0 _ ((Array.perm_iff_toList_perm.mp g.pm).mem_iff.mp (show (arrOf st)[i]∈_ by simp))
 have e:=getElem?_pos (arrOf st) i hi'
 refine⟨(arrOf st)[i].1,(arrOf st)[i].2,e,?_,hn⟩
 unfold Kr
 rw [e]
def Ris [Rk] (xs:Array Keyed) (a b:Nat):Prop:=∀i j,a<=i->i<=j->j < b->Kr xs i<=Kr xs j
def Fal [Rk] (xs:Array Keyed) (a b:Nat):Prop:=∀i j,a<=i->i<=j->j < b->Kr xs j<=Kr xs i
def Low [Rk] (xs ys:Array Keyed) (lo:Nat):Prop:=∀k,k < lo->Kr xs k=Kr ys k
theorem Low.rfl' [Rk] {xs:Array Keyed} {lo}:Low xs xs lo:=λ_ _=>rfl
theorem Low.then [Rk] {xs ys zs:Array Keyed} {lo} (h:Low xs ys lo) (g:Low ys zs lo):Low xs zs lo:=λk hk=>(h k hk).trans (g k hk)
theorem Ris.one [Rk] {xs:Array Keyed} {a b} (h:b<=a+1):Ris xs a b:=λi j h1 h2 h3=>by
 have:i=j:=by omega
 rw [this];exact Int.le_refl _
theorem jI [Rk] {xs:Array Keyed}{lo i j:Nat} (hj:j<=xs.size) (hl:lo<=i):Low (mirror xs i j ((j - i) / 2)) xs lo:=λk hk=>by
 rw [gh hj,if_neg ‹1›]
section
variable {prog:Program}{w:World}{A:Around}{E:Value->Shared->Prop}{s:Shared} [RkOk prog w A s] {a₀:Array Keyed}{p:Array (Nat × Nat × Nat)}
theorem ltG {st:SortSt}{i j:Nat}{Q:Option Bool->SortSt->Prop} (g:SG a₀ p st) (h0:dX a₀) (hi:i < a₀.size) (hj:j < a₀.size)
  (h:Q (some (decide (Kr (arrOf st) i < Kr (arrOf st) j))) st):wpS (model prog w) A E s (ltAt' i j) Q st:=by
 obtain⟨x,p1,e1,o1⟩:=g.get h0 hi
 obtain⟨y,p2,e2,o2⟩:=g.get h0 hj
 rw [ltAt'_eq]
 refine wpS_bind (wpS_get ?_)
 show wpS _ _ _ _ (do let x <- elem' (arrOf st) i;let y <- elem' (arrOf st) j;lt' x y) Q st
 rw [elem'_eq,elem'_eq,e1,e2]
 exact wpS_bind (wpS_pure (wpS_bind (wpS_pure (nV g.kd o1 o2 h))))
theorem wF {st:SortSt}{i j:Nat}{Q:Unit->SortSt->Prop} (h:Q () (setArr st (mirror (arrOf st) i j ((j - i) / 2)))):wpS (model prog w) A E s (reverseSlice' i j) Q st:=by
 rw [reverseSlice'_eq]
 exact wpS_modify h
noncomputable def vP (lo a nrem:Nat):StateT SortSt Sem (Option (Option Nat) × Nat):=
 forIn [a:nrem] ((none,a):Option (Option Nat) × Nat) λ_ c=>do
  let x <- ltAt' (lo+c.snd) (lo+c.snd - 1)
  match x with
  | some less=>if less=true then pure (ForInStep.done (none,c.snd)) else pure (ForInStep.yield (none,c.snd+1))
  | _=>pure (ForInStep.done (some none,c.snd))
noncomputable def vG (lo n nrem:Nat):StateT SortSt Sem (Option Nat):=do
 reverseSlice' lo (lo+n)
 let c <- vP lo n nrem
 match c.fst with
 | some r=>pure r
 | none=>pure (some c.snd)
noncomputable def qI (lo n nrem:Nat):StateT SortSt Sem (Option (Option Nat) × Nat × Nat):=
 forIn [n:nrem] ((none,n,0):Option (Option Nat) × Nat × Nat) λ_ c=>do
  let x <- ltAt' (lo+c.snd.fst) (lo+c.snd.fst - 1)
  match x with
  | some less=>
   if less=true then
    if c.snd.snd > 0 then do
     reverseSlice' (lo+c.snd.fst - (c.snd.snd+1)) (lo+c.snd.fst)
     pure (ForInStep.yield (none,c.snd.fst+1,0))
    else pure (ForInStep.yield (none,c.snd.fst+1,0))
   else do
    let x <- ltAt' (lo+c.snd.fst - 1) (lo+c.snd.fst)
    match x with
    | some more=>
     if more=true then pure (ForInStep.done (none,c.snd.fst,c.snd.snd))
     else pure (ForInStep.yield (none,c.snd.fst+1,c.snd.snd+1))
    | _=>pure (ForInStep.done (some none,c.snd.fst,c.snd.snd))
  | _=>pure (ForInStep.done (some none,c.snd.fst,c.snd.snd))
noncomputable def o3 (lo n nrem:Nat):StateT SortSt Sem (Option Nat):=do
 liftM (rule "list.sort.descending-run")
 let c <- qI lo (n+1) nrem
 match c.fst with
 | some r=>pure r
 | none=>
  if c.snd.snd > 0 then do
   reverseSlice' (lo+c.snd.fst - (c.snd.snd+1)) (lo+c.snd.fst)
   vG lo c.snd.fst nrem
  else vG lo c.snd.fst nrem
theorem sE (lo nrem:Nat):countRun' lo nrem=(do
  let c <- vP lo 1 nrem
  match c.fst with
  | some r=>pure r
  | none=>
   if (c.snd == nrem)=true then pure (some c.snd)
   else if c.snd > 1 then do
    let x <- ltAt' lo (lo+c.snd - 1)
    match x with
    | some rose=>if rose=true then pure (some c.snd) else do
      reverseSlice' lo (lo+c.snd)
      o3 lo c.snd nrem
    | _=>pure none
   else o3 lo c.snd nrem):=by
 rw [countRun'_eq]
 dsimp only
 unfold o3 vG qI vP
 congr 1
 funext c
 obtain⟨r,n⟩:=c
 cases r with
 | some r=>rfl
 | none=>
  dsimp only
  split
  ·rfl
  ·split
   ·congr 1
    funext x
    cases x with
    | none=>rfl
    | some rose=>
     dsimp only
     split
     ·rfl
     ·congr 1;funext _;congr 1;funext _;congr 1;funext c2
      obtain⟨r2,n2,q2⟩:=c2
      cases r2 with
      | some r2=>rfl
      | none=>
       dsimp only
       split
       ·congr 1;funext _;congr 1;funext _;congr 1;funext c3
        obtain⟨r3,n3⟩:=c3
        cases r3 <;> rfl
       ·congr 1;funext _;congr 1;funext c3
        obtain⟨r3,n3⟩:=c3
        cases r3 <;> rfl
   ·congr 1;funext _;congr 1;funext c2
    obtain⟨r2,n2,q2⟩:=c2
    cases r2 with
    | some r2=>rfl
    | none=>
     dsimp only
     split
     ·congr 1;funext _;congr 1;funext _;congr 1;funext c3
      obtain⟨r3,n3⟩:=c3
      cases r3 <;> rfl
     ·congr 1;funext _;congr 1;funext c3
      obtain⟨r3,n3⟩:=c3
      cases r3 <;> rfl
theorem pR {st:SortSt}{lo a nrem:Nat}{Q:Option (Option Nat) × Nat->SortSt->Prop} (h0:dX a₀) (hn:lo+nrem<=a₀.size) (ha:1<=a) (han:a<=nrem) (g:SG a₀ p st)
  (hs:Ris (arrOf st) lo (lo+a))
  (h:∀n,a<=n->n<=nrem->Ris (arrOf st) lo (lo+n)->(n=nrem\/Kr (arrOf st) (lo+n) < Kr (arrOf st) (lo+n - 1))->Q (none,n) st) :
  wpS (model prog w) A E s (vP lo a nrem) Q st:=by
 unfold vP
 refine wpS_forRange (I:=λx c u=>u=st/\c=(none,x)/\Ris (arrOf st) lo (lo+x)) ?step ?fin ⟨rfl,rfl,hs⟩
 case fin=>
  rintro c u ⟨rfl,rfl,r⟩
  rw [Nat.max_eq_right han]at r ⊢
  exact h nrem han (Nat.le_refl _) r (.inl rfl)
 case step=>
  rintro x c u ax xn ⟨rfl,rfl,r⟩
  dsimp only
  refine wpS_bind (ltG g h0 ‹1› ‹1› ?_)
  by_cases less:Kr (arrOf u) (lo+x) < Kr (arrOf u) (lo+x - 1)
  ·rw [decide_eq_true less]
   try dsimp only
   exact wpS_pure (h x ax ‹1› r (.inr less))
  ·rw [decide_eq_false less]
   refine wpS_pure ⟨rfl,rfl,λi j h1 h2 h3=>?_⟩
   by_cases hj:j < lo+x
   ·exact r i j h1 h2 hj
   ·have ej:j=lo+x:=by omega
    by_cases ei:i=j
    ·rw [ei];exact Int.le_refl _
    ·rw [ej]
     exact Int.le_trans (r i (lo+x - 1) h1 ‹1› ‹1›) (Int.not_lt.mp less)
theorem pQ {st:SortSt}{lo n nrem:Nat}{Q:Option Nat->SortSt->Prop} (h0:dX a₀) (hn:lo+nrem<=a₀.size) (h1:1<=n) (hnn:n<=nrem) (g:SG a₀ p st)
  (hs:Fal (arrOf st) lo (lo+n)) (h:∀m u,SG a₀ p u->Low (arrOf u) (arrOf st) lo->1<=m->m<=nrem->Ris (arrOf u) lo (lo+m)->Q (some m) u) :
  wpS (model prog w) A E s (vG lo n nrem) Q st:=by
 unfold vG
 have sz:lo+n<=(arrOf st).size:=by rw [g.sz];omega
 refine wpS_bind (wF ?_)
 have g':SG a₀ p (setArr st (mirror (arrOf st) lo (lo+n) ((lo+n - lo) / 2))):=g.arr (mirror_perm _ _ _ _)
 refine wpS_bind (pR h0 hn h1 hnn g' (λi j a1 a2 a3=>?_) λm m1 m2 m3 _=>wpS_pure (h m _ g' (jI sz (Nat.le_refl _)) ‹1› m2 m3))
 show Kr (mirror (arrOf st) lo (lo+n) _) i<=Kr (mirror (arrOf st) lo (lo+n) _) j
 rw [gh sz,gh sz,if_pos ⟨a1,by omega⟩,if_pos ⟨by omega,a3⟩]
 exact hs _ _ ‹1› ‹1› ‹1›
theorem sR {st:SortSt}{lo n nrem:Nat}{Q:Option (Option Nat) × Nat × Nat->SortSt->Prop} (h0:dX a₀) (hn:lo+nrem<=a₀.size) (h1:1<=n) (hnn:n<=nrem) (g:SG a₀ p st)
  (hs:Fal (arrOf st) lo (lo+n))
  (h:∀m q u,SG a₀ p u->Low (arrOf u) (arrOf st) lo->n<=m->m<=nrem->Fal (arrOf u) lo (lo+m)->q+1<=m->(∀i,lo+m - (q+1)<=i->i < lo+m->Kr (arrOf u) i=Kr (arrOf u) (lo+m - 1))->Q (none,m,q) u) :
  wpS (model prog w) A E s (qI lo n nrem) Q st:=by
 unfold qI
 refine wpS_forRange (I:=λx c u=>∃q,c=(none,x,q)/\SG a₀ p u/\Low (arrOf u) (arrOf st) lo/\Fal (arrOf u) lo (lo+x)/\q+1<=x/\
   (∀i,lo+x - (q+1)<=i->i < lo+x->Kr (arrOf u) i=Kr (arrOf u) (lo+x - 1))) ?step ?fin ⟨0,rfl,g,Low.rfl',hs,by omega,λi a1 a2=>by congr 1;omega⟩
 case fin=>
  rintro c u ⟨q,rfl,g1,l1,f1,q1,e1⟩
  rw [Nat.max_eq_right hnn]at f1 q1 e1 ⊢
  exact h nrem q u g1 l1 hnn (Nat.le_refl _) f1 q1 e1
 case step=>
  rintro x c u ax xn ⟨q,rfl,g1,l1,f1,q1,e1⟩
  dsimp only
  have sz:lo+x<=(arrOf u).size:=by rw [g1.sz];omega
  refine wpS_bind (ltG g1 h0 ‹1› ‹1› ?_)
  by_cases less:Kr (arrOf u) (lo+x) < Kr (arrOf u) (lo+x - 1)
  ·rw [decide_eq_true less]
   try dsimp only
   have st1:∀xs:Array Keyed,(∀k,Kr xs k=Kr (arrOf u) k)->Fal xs lo (lo+(x+1)):=by
    intro xs hk i j a1 a2 a3
    rw [hk,hk]
    by_cases hj:j < lo+x
    ·exact f1 i j a1 a2 hj
    ·have ej:j=lo+x:=by omega
     by_cases ei:i=j
     ·rw [ei];exact Int.le_refl _
     ·rw [ej]
      exact Int.le_trans (Int.le_of_lt less) (f1 i (lo+x - 1) a1 ‹1› ‹1›)
   by_cases hq:q > 0
   ·rw [if_pos rfl,if_pos hq]
    refine wpS_bind (wF (wpS_pure ⟨0,rfl,g1.arr (mirror_perm _ _ _ _),λk hk=>?_,st1 _ (bM sz e1),by omega,λi a1 a2=>by congr 1;omega⟩))
    exact(bM sz e1 k).trans (l1 k hk)
   ·rw [if_pos rfl,if_neg hq]
    exact wpS_pure ⟨0,rfl,g1,l1,st1 _ (λ_=>rfl),by omega,λi a1 a2=>by congr 1;omega⟩
  ·rw [decide_eq_false less]
   dsimp only
   rw [if_neg (by decide)]
   refine wpS_bind (ltG g1 h0 ‹1› ‹1› ?_)
   by_cases more:Kr (arrOf u) (lo+x - 1) < Kr (arrOf u) (lo+x)
   ·rw [decide_eq_true more]
    exact wpS_pure (h x q u g1 l1 ax ‹1› f1 q1 e1)
   ·rw [decide_eq_false more]
    have ex:Kr (arrOf u) (lo+x)=Kr (arrOf u) (lo+x - 1):=by omega
    refine wpS_pure ⟨q+1,rfl,g1,l1,λi j a1 a2 a3=>?_,by omega,λi a1 a2=>?_⟩
    ·by_cases hj:j < lo+x
     ·exact f1 i j a1 a2 hj
     ·have ej:j=lo+x:=by omega
      by_cases ei:i=j
      ·rw [ei];exact Int.le_refl _
      ·rw [ej,ex];exact f1 i (lo+x - 1) a1 ‹1› ‹1›
    ·rw [show lo+(x+1) - 1=lo+x by omega]
     by_cases ei:i=lo+x
     ·rw [ei]
     ·rw [ex];exact e1 i ‹1› ‹1›
theorem mK {st:SortSt}{lo n nrem:Nat}{Q:Option Nat->SortSt->Prop} (h0:dX a₀) (hn:lo+nrem<=a₀.size) (hnn:n+1<=nrem) (g:SG a₀ p st)
  (hs:Fal (arrOf st) lo (lo+(n+1))) (h:∀m u,SG a₀ p u->Low (arrOf u) (arrOf st) lo->1<=m->m<=nrem->Ris (arrOf u) lo (lo+m)->Q (some m) u) :
  wpS (model prog w) A E s (o3 lo n nrem) Q st:=by
 unfold o3
 refine wpS_bind (wpS_lift (wpAny_rule ⟨rfl,?_⟩))
 refine wpS_bind (sR h0 hn ‹1› hnn g hs λm q u g1 l1 m1 m2 f1 q1 e1=>?_)
 dsimp only
 have sz:lo+m<=(arrOf u).size:=by rw [g1.sz];omega
 by_cases hq:q > 0
 ·rw [if_pos hq]
  refine wpS_bind (wF (pQ h0 hn ‹1› m2 (g1.arr (mirror_perm _ _ _ _)) (λi j a1 a2 a3=>?_) λm' u' g2 l2 k1 k2 k3=>h m' u' g2 (λk hk=>?_) k1 k2 k3))
  ·show Kr (mirror (arrOf u) _ _ _) j<=Kr (mirror (arrOf u) _ _ _) i
   rw [bM sz e1,bM sz e1]
   exact f1 i j a1 a2 a3
  ·exact((l2 k hk).trans (bM sz e1 k)).trans (l1 k hk)
 ·rw [if_neg hq]
  exact pQ h0 hn ‹1› m2 g1 f1 λm' u' g2 l2=>h m' u' g2 (l2.then l1)
theorem qT {st:SortSt}{lo nrem:Nat}{Q:Option Nat->SortSt->Prop} (h0:dX a₀) (hn:lo+nrem<=a₀.size) (h1:1<=nrem) (g:SG a₀ p st)
  (h:∀m u,SG a₀ p u->Low (arrOf u) (arrOf st) lo->1<=m->m<=nrem->Ris (arrOf u) lo (lo+m)->Q (some m) u) :
  wpS (model prog w) A E s (countRun' lo nrem) Q st:=by
 rw [sE]
 refine wpS_bind (pR h0 hn (Nat.le_refl 1) h1 g (Ris.one (Nat.le_refl _)) λn n1 n2 r1 o1=>?_)
 dsimp only
 by_cases hnn:n=nrem
 ·rw [if_pos (by simpa using hnn)]
  exact wpS_pure (h n st g Low.rfl' n1 n2 r1)
 ·rw [if_neg (by simpa using hnn)]
  have less:=o1.resolve_left hnn
  by_cases hgt:n > 1
  ·rw [if_pos hgt]
   refine wpS_bind (ltG g h0 ‹1› ‹1› ?_)
   by_cases rose:Kr (arrOf st) lo < Kr (arrOf st) (lo+n - 1)
   ·rw [decide_eq_true rose]
    exact wpS_pure (h n st g Low.rfl' n1 n2 r1)
   ·rw [decide_eq_false rose]
    dsimp only
    rw [if_neg (by decide)]
    have sz:lo+n<=(arrOf st).size:=by rw [g.sz];omega
    have all:∀k,lo<=k->k < lo+n->Kr (arrOf st) k=Kr (arrOf st) (lo+n - 1):=by
     intro k k1 k2
     have b1:=r1 lo k (Nat.le_refl _) k1 k2
     have b2:=r1 k (lo+n - 1) k1 ‹1› ‹1›
     omega
    refine wpS_bind (wF (mK h0 hn ‹1› (g.arr (mirror_perm _ _ _ _)) (λi j a1 a2 a3=>?_) λm u g2 l2=>h m u g2 (l2.then (jI sz (Nat.le_refl _)))))
    show Kr (mirror (arrOf st) _ _ _) j<=Kr (mirror (arrOf st) _ _ _) i
    rw [bM sz all,bM sz all]
    by_cases hj:j < lo+n
    ·rw [all i a1 ‹1›,all j ‹1› hj];exact Int.le_refl _
    ·have ej:j=lo+n:=by omega
     by_cases ei:i=j
     ·rw [ei];exact Int.le_refl _
     ·rw [all i a1 ‹1›,ej];exact Int.le_of_lt less
  ·rw [if_neg hgt]
   have en:n=1:=by omega
   subst en
   refine mK h0 hn ‹1› g (λi j a1 a2 a3=>?_) h
   by_cases ei:i=j
   ·rw [ei];exact Int.le_refl _
   ·rw [show i=lo+1 - 1 by omega,show j=lo+1 by omega]
    exact Int.le_of_lt less
theorem vX {st:SortSt}{lo n ok:Nat}{Q:Bool->SortSt->Prop} (h0:dX a₀) (hn:lo+n<=a₀.size) (hok:ok<=n) (g:SG a₀ p st) (hs:Ris (arrOf st) lo (lo+ok))
  (h:∀u,SG a₀ p u->Low (arrOf u) (arrOf st) lo->Ris (arrOf u) lo (lo+n)->Q true u):wpS (model prog w) A E s (binarySort' lo n ok) Q st:=by
 rw [binarySort'_eq]
 dsimp only
 refine wpS_bind (wpS_mono (wpS_forRange (I:=λk c u=>c=(none,())/\SG a₀ p u/\Low (arrOf u) (arrOf st) lo/\Ris (arrOf u) lo (lo+min k n))
  (Q:=λc u=>c=(none,())/\SG a₀ p u/\Low (arrOf u) (arrOf st) lo/\Ris (arrOf u) lo (lo+n)) ?step ?fin ?init) ?post)
 case post=>
  rintro c u ⟨rfl,g1,l1,r1⟩
  exact wpS_pure (h u g1 l1 r1)
 case init=>
  refine⟨rfl,g,Low.rfl',?_⟩
  by_cases e:ok=0
  ·exact Ris.one ‹1›
  ·exact λi j a1 a2 a3=>hs i j a1 a2 ‹1›
 case fin=>
  rintro c u ⟨hc,g1,l1,r1⟩
  exact⟨hc,g1,l1,λi j a1 a2 a3=>r1 i j a1 a2 ‹1›⟩
 case step=>
  rintro k c u ak kn ⟨rfl,g1,l1,r1⟩
  rw [Nat.min_eq_left (Nat.le_of_lt kn)]at r1
  try dsimp only
  refine wpS_bind (wpS_mono (wpS_forRange (I:=λx c v=>v=u/\∃l r,c=(none,l,r)/\l<=r/\r<=k/\r - l<=k - x/\
    (∀i,lo<=i->i < lo+l->Kr (arrOf u) i<=Kr (arrOf u) (lo+k))/\(∀i,lo+r<=i->i < lo+k->Kr (arrOf u) (lo+k) < Kr (arrOf u) i))
   (Q:=λc v=>v=u/\∃l r,c=(none,l,r)/\l<=k/\
    (∀i,lo<=i->i < lo+l->Kr (arrOf u) i<=Kr (arrOf u) (lo+k))/\(∀i,lo+l<=i->i < lo+k->Kr (arrOf u) (lo+k) < Kr (arrOf u) i)) ?istep ?ifin ?iinit) ?ipost)
  case iinit=>exact⟨rfl,0,k,rfl,by omega,by omega,by omega,λi _ _=>by omega,λi _ _=>by omega⟩
  case ifin=>
   rintro c v ⟨rfl,l,r,rfl,b1,b2,b3,b4,b5⟩
   have e:l=r:=by omega
   subst e
   exact⟨rfl,l,l,rfl,b2,b4,b5⟩
  case istep=>
   rintro x c v _ xk ⟨rfl,l,r,rfl,b1,b2,b3,b4,b5⟩
   dsimp only
   by_cases ge:l>=r
   ·rw [if_pos ge]
    have e:l=r:=by omega
    subst e
    exact wpS_pure ⟨rfl,l,l,rfl,b2,b4,b5⟩
   ·rw [if_neg ge]
    refine wpS_bind (ltG g1 h0 ‹1› ‹1› ?_)
    by_cases less:Kr (arrOf v) (lo+k) < Kr (arrOf v) (lo+(l+r) / 2)
    ·rw [decide_eq_true less]
     refine wpS_pure ⟨rfl,l,(l+r) / 2,rfl,by omega,by omega,by omega,b4,λi a1 a2=>?_⟩
     exact Int.lt_of_lt_of_le less (r1 _ _ ‹1› a1 a2)
    ·rw [decide_eq_false less]
     refine wpS_pure ⟨rfl,(l+r) / 2+1,r,rfl,by omega,by omega,by omega,λi a1 a2=>?_,b5⟩
     exact Int.le_trans (r1 i (lo+(l+r) / 2) a1 ‹1› ‹1›) (Int.not_lt.mp less)
  case ipost=>
   rintro c v ⟨rfl,l,r,rfl,b1,b2,b3⟩
   dsimp only
   rw [moveDown'_eq]
   have sz:lo+k < (arrOf v).size:=by rw [g1.sz];omega
   refine wpS_bind (wpS_modify (wpS_pure ⟨rfl,g1.arr (bubble_perm _ _ _),λi hi=>?_,λi j a1 a2 a3=>?_⟩))
   ·refine Eq.trans ?_ (l1 i hi)
    show Kr (bubble (arrOf v) (lo+k) (lo+k - (lo+l))) i=_
    rw [iF sz ‹1›,if_neg ‹1›,if_neg ‹1›]
   ·show Kr (bubble (arrOf v) (lo+k) (lo+k - (lo+l))) i<=Kr (bubble (arrOf v) (lo+k) (lo+k - (lo+l))) j
    rw [iF sz ‹1›,iF sz ‹1›,show lo+k - (lo+k - (lo+l))=lo+l from Nat.sub_sub_self ‹1›]
    have a4:j < lo+(k+1):=by omega
    repeat' split
    all_goals first
     | (exfalso;omega)
     | exact Int.le_refl _
     | exact b2 _ ‹1› ‹1›
     | exact Int.le_of_lt (b3 _ ‹1› ‹1›)
     | exact r1 _ _ ‹1› ‹1› ‹1›
end
noncomputable def ky [Rk] (q:Keyed):Int:=Rk.rk q.1
theorem xL [Rk] {xs:Array Keyed}{i:Nat}{q:Keyed} (h:xs[i]?=some q):Kr xs i=ky q:=by
 unfold Kr ky;rw [h]
structure Mg [Rk] (a b out:Array Keyed):Prop where
 pm:out.toList.Perm (a.toList++b.toList)
 so:(out.toList.map ky).Pairwise (·<=·)
structure LoI [Rk] (a b out:Array Keyed) (ia ib:Nat):Prop where
 pm:out.toList.Perm (a.toList.take ia++b.toList.take ib)
 so:(out.toList.map ky).Pairwise (·<=·)
 ba:∀o∈out.toList,∀i,ia<=i->i < a.size->ky o<=Kr a i
 bb:∀o∈out.toList,∀j,ib<=j->j < b.size->ky o<=Kr b j
theorem bq (a:Array Keyed) (i k:Nat):(a.extract i (i+k)).toList=(a.toList.drop i).take k:=by
 rw [Array.toList_extract,List.extract_eq_take_drop,Nat.add_sub_cancel_left]
theorem bp [Rk] {a:Array Keyed}{i k:Nat}{o:Keyed} (h:o∈(a.toList.drop i).take k):∃j,i<=j/\j < i+k/\j < a.size/\ky o=Kr a j:=by
 obtain⟨n,hn,e⟩:=List.getElem_of_mem h
 rw [List.length_take,List.length_drop,Array.length_toList]at hn
 refine⟨i+n,by omega,by omega,by omega,?_⟩
 rw [xL (q:=o)]
 rw [List.getElem_take,List.getElem_drop]at e
 rw [<- e]
 simp only [Array.getElem_toList]
 rw [getElem?_pos a (i+n) ‹1›]
theorem hJ [Rk] {a:Array Keyed} (r:Ris a 0 a.size) (i k:Nat):(((a.toList.drop i).take k).map ky).Pairwise (·<=·):=by
 rw [List.pairwise_iff_getElem]
 intro m n hm hn hmn
 rw [List.length_map,List.length_take,List.length_drop,Array.length_toList]at hm hn
 rw [List.getElem_map,List.getElem_map,List.getElem_take,List.getElem_take,List.getElem_drop,List.getElem_drop]
 have h:=r (i+m) (i+n) ‹1› ‹1› ‹1›
 rw [xL (getElem?_pos a (i+m) ‹1›),xL (getElem?_pos a (i+n) ‹1›)]at h
 exact h
theorem je (l:List Keyed) (i k:Nat):l.take (i+k)=l.take i++(l.drop i).take k:=by
 rw [List.take_add]
theorem LoI.takeA [Rk] {a b out:Array Keyed}{ia ib k:Nat} (h:LoI a b out ia ib) (ra:Ris a 0 a.size) (rb:Ris b 0 b.size) (hb:∀i,ia<=i->i < ia+k->i < a.size->ib < b.size->Kr a i<=Kr b ib) :
  LoI a b (out++a.extract ia (ia+k)) (ia+k) ib:=by
 refine⟨?_,?_,?_,?_⟩
 ·rw [Array.toList_append,bq,je]
  refine(h.pm.append_right _).trans ?_
  rw [List.append_assoc,List.append_assoc]
  exact List.Perm.append_left _ List.perm_append_comm
 ·rw [Array.toList_append,bq,List.map_append,List.pairwise_append]
  refine⟨h.so,hJ ra _ _,λx hx y hy=>?_⟩
  obtain⟨o,ho,rfl⟩:=List.mem_map.mp hx
  obtain⟨q,hq,rfl⟩:=List.mem_map.mp hy
  obtain⟨j,j1,j2,j3,e⟩:=bp hq
  rw [e]
  exact h.ba o ho j j1 j3
 ·intro o ho i i1 i2
  rw [Array.toList_append,bq]at ho
  rcases List.mem_append.mp ho with ho | ho
  ·exact h.ba o ho i ‹1› i2
  ·obtain⟨j,j1,j2,j3,e⟩:=bp ho
   rw [e]
   exact ra j i ‹1› ‹1› i2
 ·intro o ho i i1 i2
  rw [Array.toList_append,bq]at ho
  rcases List.mem_append.mp ho with ho | ho
  ·exact h.bb o ho i i1 i2
  ·obtain⟨j,j1,j2,j3,e⟩:=bp ho
   rw [e]
   exact Int.le_trans (hb j j1 j2 j3 ‹1›) (rb ib i ‹1› i1 i2)
theorem LoI.takeB [Rk] {a b out:Array Keyed}{ia ib k:Nat} (h:LoI a b out ia ib) (ra:Ris a 0 a.size) (rb:Ris b 0 b.size) (hb:∀i,ib<=i->i < ib+k->i < b.size->ia < a.size->Kr b i<=Kr a ia) :
  LoI a b (out++b.extract ib (ib+k)) ia (ib+k):=by
 refine⟨?_,?_,?_,?_⟩
 ·rw [Array.toList_append,bq,je,<- List.append_assoc]
  exact h.pm.append_right _
 ·rw [Array.toList_append,bq,List.map_append,List.pairwise_append]
  refine⟨h.so,hJ rb _ _,λx hx y hy=>?_⟩
  obtain⟨o,ho,rfl⟩:=List.mem_map.mp hx
  obtain⟨q,hq,rfl⟩:=List.mem_map.mp hy
  obtain⟨j,j1,j2,j3,e⟩:=bp hq
  rw [e]
  exact h.bb o ho j j1 j3
 ·intro o ho i i1 i2
  rw [Array.toList_append,bq]at ho
  rcases List.mem_append.mp ho with ho | ho
  ·exact h.ba o ho i i1 i2
  ·obtain⟨j,j1,j2,j3,e⟩:=bp ho
   rw [e]
   exact Int.le_trans (hb j j1 j2 j3 ‹1›) (ra ia i ‹1› i1 i2)
 ·intro o ho i i1 i2
  rw [Array.toList_append,bq]at ho
  rcases List.mem_append.mp ho with ho | ho
  ·exact h.bb o ho i ‹1› i2
  ·obtain⟨j,j1,j2,j3,e⟩:=bp ho
   rw [e]
   exact rb j i ‹1› ‹1› i2
theorem dR {a out:Array Keyed}{i:Nat}{x:Keyed} (h:a[i]?=some x):out.push x=out++a.extract i (i+1):=by
 apply Array.ext'
 obtain⟨hi,e⟩:=Array.getElem?_eq_some_iff.mp h
 rw [Array.toList_push,Array.toList_append,bq,List.drop_eq_getElem_cons (by rw [Array.length_toList];exact hi)]
 rw [List.take_succ_cons,List.take_zero,Array.getElem_toList,e]
theorem LoI.fin [Rk] {a b out:Array Keyed} (h:LoI a b out a.size b.size):Mg a b out:=by
 refine⟨?_,h.so⟩
 have:=h.pm
 rwa [List.take_of_length_le (by simp),List.take_of_length_le (by simp)]at this
theorem LoI.done [Rk] {a b out:Array Keyed}{ia ib:Nat} (h:LoI a b out ia ib) (ra:Ris a 0 a.size) (rb:Ris b 0 b.size) (ha:ia<=a.size) (hb:ib=b.size) :
  Mg a b (out++a.extract ia a.size++b.extract ib b.size):=by
 have h1:=(h.takeA (k:=a.size - ia) ra rb λi _ _ _ hh=>by omega).takeB (k:=b.size - ib) ra rb λi _ _ _ hh=>by omega
 rw [show ia+(a.size - ia)=a.size from Nat.add_sub_of_le ‹1›,show ib+(b.size - ib)=b.size from Nat.add_sub_of_le ‹1›]at h1
 exact h1.fin
theorem LoI.lastA [Rk] {a b out:Array Keyed}{ia ib:Nat} (h:LoI a b out ia ib) (ra:Ris a 0 a.size) (rb:Ris b 0 b.size) (ha:ia+1=a.size) (hb:ib<=b.size)
  (hl:∀j,j < b.size->Kr b j<=Kr a (a.size - 1)):Mg a b (out++b.extract ib b.size++a.extract ia a.size):=by
 have h1:=(h.takeB (k:=b.size - ib) ra rb λi _ _ hi _=>by rw [show ia=a.size - 1 by omega];exact hl i hi).takeA (k:=a.size - ia) ra rb λi _ _ _ hh=>by omega
 rw [show ia+(a.size - ia)=a.size from Nat.add_sub_of_le ‹1›,show ib+(b.size - ib)=b.size from Nat.add_sub_of_le ‹1›]at h1
 exact h1.fin
structure HiI [Rk] (a b o:Array Keyed) (na nb:Nat):Prop where
 pm:o.toList.Perm (a.toList.drop na++b.toList.drop nb)
 so:(o.toList.map ky).Pairwise (·<=·)
 ba:∀q∈o.toList,∀i,i < na->i < a.size->Kr a i<=ky q
 bb:∀q∈o.toList,∀j,j < nb->j < b.size->Kr b j<=ky q
theorem dW (l:List Keyed) (i k:Nat):l.drop i=(l.drop i).take k++l.drop (i+k):=by
 rw [<- List.drop_drop,List.take_append_drop]
theorem HiI.takeA [Rk] {a b o:Array Keyed}{na nb i k:Nat} (h:HiI a b o na nb) (e:na=i+k) (ra:Ris a 0 a.size) (rb:Ris b 0 b.size) (hn:nb<=b.size) (hb:∀j,i<=j->j < na->j < a.size->0 < nb->Kr b (nb - 1)<=Kr a j) :
  HiI a b (a.extract i na++o) i nb:=by
 subst e
 refine⟨?_,?_,?_,?_⟩
 ·rw [Array.toList_append,bq]
  refine(List.Perm.append_left _ h.pm).trans ?_
  rw [<- List.append_assoc,<- dW]
 ·rw [Array.toList_append,bq,List.map_append,List.pairwise_append]
  refine⟨hJ ra _ _,h.so,λx hx y hy=>?_⟩
  obtain⟨q,hq,rfl⟩:=List.mem_map.mp hx
  obtain⟨p,hp,rfl⟩:=List.mem_map.mp hy
  obtain⟨j,j1,j2,j3,e⟩:=bp hq
  rw [e]
  exact h.ba p hp j j2 j3
 ·intro q hq j j1 j2
  rw [Array.toList_append,bq]at hq
  rcases List.mem_append.mp hq with hq | hq
  ·obtain⟨m,m1,m2,m3,e⟩:=bp hq
   rw [e]
   exact ra j m ‹1› ‹1› m3
  ·exact h.ba q hq j ‹1› j2
 ·intro q hq j j1 j2
  rw [Array.toList_append,bq]at hq
  rcases List.mem_append.mp hq with hq | hq
  ·obtain⟨m,m1,m2,m3,e⟩:=bp hq
   rw [e]
   exact Int.le_trans (rb j (nb - 1) ‹1› ‹1› ‹1›) (hb m m1 m2 m3 ‹1›)
  ·exact h.bb q hq j j1 j2
theorem HiI.takeB [Rk] {a b o:Array Keyed}{na nb i k:Nat} (h:HiI a b o na nb) (e:nb=i+k) (ra:Ris a 0 a.size) (rb:Ris b 0 b.size) (hn:na<=a.size) (hb:∀j,i<=j->j < nb->j < b.size->0 < na->Kr a (na - 1)<=Kr b j) :
  HiI a b (b.extract i nb++o) na i:=by
 subst e
 refine⟨?_,?_,?_,?_⟩
 ·rw [Array.toList_append,bq]
  refine(List.Perm.append_left _ h.pm).trans ?_
  rw [dW b.toList i k,<- List.append_assoc,<- List.append_assoc,<- dW]
  exact List.Perm.append_right _ List.perm_append_comm
 ·rw [Array.toList_append,bq,List.map_append,List.pairwise_append]
  refine⟨hJ rb _ _,h.so,λx hx y hy=>?_⟩
  obtain⟨q,hq,rfl⟩:=List.mem_map.mp hx
  obtain⟨p,hp,rfl⟩:=List.mem_map.mp hy
  obtain⟨j,j1,j2,j3,e⟩:=bp hq
  rw [e]
  exact h.bb p hp j j2 j3
 ·intro q hq j j1 j2
  rw [Array.toList_append,bq]at hq
  rcases List.mem_append.mp hq with hq | hq
  ·obtain⟨m,m1,m2,m3,e⟩:=bp hq
   rw [e]
   exact Int.le_trans (ra j (na - 1) ‹1› ‹1› ‹1›) (hb m m1 m2 m3 ‹1›)
  ·exact h.ba q hq j j1 j2
 ·intro q hq j j1 j2
  rw [Array.toList_append,bq]at hq
  rcases List.mem_append.mp hq with hq | hq
  ·obtain⟨m,m1,m2,m3,e⟩:=bp hq
   rw [e]
   exact rb j m ‹1› ‹1› m3
  ·exact h.bb q hq j ‹1› j2
theorem fK {a out:Array Keyed}{i:Nat}{x:Keyed} (h:a[i]?=some x):(out.push x).reverse=a.extract i (i+1)++out.reverse:=by
 rw [dR h,Array.reverse_append]
 congr 1
 apply Array.ext'
 rw [Array.toList_reverse,bq]
 obtain⟨hi,e⟩:=Array.getElem?_eq_some_iff.mp h
 rw [List.drop_eq_getElem_cons (by rw [Array.length_toList];exact hi)]
 rw [List.take_succ_cons,List.take_zero]
 rfl
theorem qw (out x:Array Keyed):(out++x.reverse).reverse=x++out.reverse:=by
 rw [Array.reverse_append,Array.reverse_reverse]
theorem HiI.fin [Rk] {a b o:Array Keyed} (h:HiI a b o 0 0):Mg a b o:=⟨h.pm,h.so⟩
theorem HiI.done [Rk] {a b o:Array Keyed}{na nb:Nat} (h:HiI a b o na nb) (ra:Ris a 0 a.size) (rb:Ris b 0 b.size) (ha:na=0) (hb:nb<=b.size) :
  Mg a b (a.extract 0 na++b.extract 0 nb++o):=by
 have h1:=(h.takeB (i:=0) (k:=nb) ‹1› ra rb ‹1› λj _ _ _ hh=>by omega).takeA (i:=0) (k:=na) ‹1› ra rb ‹1› λj _ _ _ hh=>by omega
 rw [<- Array.append_assoc]at h1
 exact h1.fin
theorem HiI.firstB [Rk] {a b o:Array Keyed}{na nb:Nat} (h:HiI a b o na nb) (ra:Ris a 0 a.size) (rb:Ris b 0 b.size) (ha:na<=a.size) (hb:nb=1) (hz:0 < b.size)
  (hl:∀j,j < a.size->Kr b 0<=Kr a j):Mg a b (b.extract 0 nb++a.extract 0 na++o):=by
 subst hb
 have h1:=(h.takeA (i:=0) (k:=na) ‹1› ra rb ‹1› λj _ _ hj _=>hl j hj).takeB (i:=0) (k:=1) ‹1› ra rb ‹1› λj _ _ _ hh=>by omega
 rw [<- Array.append_assoc]at h1
 exact h1.fin
noncomputable def loX:Array Keyed->Array Keyed->StateT SortSt Sem (Array Keyed):=sortPriv% PySem.Builtin.mergeLo
noncomputable def hiX:Array Keyed->Array Keyed->StateT SortSt Sem (Array Keyed):=sortPriv% PySem.Builtin.mergeHi
noncomputable def Ah:Nat->StateT SortSt Sem Unit:=sortPriv% PySem.Builtin.setMinGallop
def IK [Rk] (a:Array Keyed):Prop:=∀i,i < a.size->∃t q,a[i]?=some (t,q)/\Rk.rk t=Kr a i/\Rk.ok t
structure SS [Rk] (st u:SortSt):Prop where
 ar:arrOf u=arrOf st
 pd:pendingOf u=pendingOf st
 kd:kindOf u=Rk.kd
 fl:failedOf u=none
def LoE [Rk] (a b:Array Keyed) (N:Nat) (o:Option (Array Keyed)) (out:Array Keyed) (i' j':Nat):Prop:=(∃r,o=some r/\Mg a b r)\/(o=none/\LoI a b out i' j'/\i'+1 < a.size/\j' < b.size/\N+1<=i'+j')
inductive LoA [Rk] (a b:Array Keyed) (st:SortSt) (x:Nat) (c:Option (Array Keyed) × Array Keyed × Nat × Nat × Nat) (v:SortSt):Prop
 | mk (g:SS st v) (out:Array Keyed) (i j m:Nat) (e:c=(none,out,i,j,m)) (L:LoI a b out i j) (h1:i+1 < a.size) (h2:j < b.size) (h3:x+1<=i+j):LoA a b st x c v
inductive LoAQ [Rk] (a b:Array Keyed) (st:SortSt) (c:Option (Array Keyed) × Array Keyed × Nat × Nat × Nat) (v:SortSt):Prop
 | mk (g:SS st v) (r out:Array Keyed) (i j m:Nat) (e:c=(some r,out,i,j,m)) (hm:Mg a b r):LoAQ a b st c v
inductive LoB [Rk] (a b:Array Keyed) (st:SortSt) (N y:Nat) (c:Option (Array Keyed) × Array Keyed × Nat × Nat × Nat × Nat) (v:SortSt):Prop
 | mk (g:SS st v) (out:Array Keyed) (i' j' ac bc:Nat) (e:c=(none,out,i',j',ac,bc)) (L:LoI a b out i' j') (h1:i'+1 < a.size) (h2:j' < b.size) (h3:N+y<=i'+j'):LoB a b st N y c v
inductive LoBQ [Rk] (a b:Array Keyed) (st:SortSt) (N:Nat) (c:Option (Array Keyed) × Array Keyed × Nat × Nat × Nat × Nat) (v:SortSt):Prop
 | mk (g:SS st v) (o:Option (Array Keyed)) (out:Array Keyed) (i' j' ac bc:Nat) (e:c=(o,out,i',j',ac,bc)) (h:LoE a b N o out i' j'):LoBQ a b st N c v
inductive LoC [Rk] (a b:Array Keyed) (st:SortSt) (N:Nat) (c:Option (Array Keyed) × Array Keyed × Nat × Nat × Nat × Nat × Nat) (v:SortSt):Prop
 | mk (g:SS st v) (out:Array Keyed) (i' j' mg ac bc:Nat) (e:c=(none,out,i',j',mg,ac,bc)) (L:LoI a b out i' j') (h1:i'+1 < a.size) (h2:j' < b.size) (h3:N+1<=i'+j'):LoC a b st N c v
inductive LoCQ [Rk] (a b:Array Keyed) (st:SortSt) (N:Nat) (c:Option (Array Keyed) × Array Keyed × Nat × Nat × Nat × Nat × Nat) (v:SortSt):Prop
 | mk (g:SS st v) (o:Option (Array Keyed)) (out:Array Keyed) (i' j' mg ac bc:Nat) (e:c=(o,out,i',j',mg,ac,bc)) (h:LoE a b N o out i' j'):LoCQ a b st N c v
section
variable {prog:Program}{w:World}{A:Around}{E:Value->Shared->Prop}{s:Shared} [RkOk prog w A s]
theorem cx {st:SortSt}{arr:Array Keyed}{i:Nat}{x:Keyed}{Q:Keyed->SortSt->Prop} (h:arr[i]?=some x) (q:Q x st):wpS (model prog w) A E s (elem' arr i) Q st:=by
 rw [elem'_eq,h]
 exact wpS_pure q
theorem qq {st u:SortSt}{g:Nat}{Q:Unit->SortSt->Prop} (h:SS st u) (q:∀v,SS st v->Q () v):wpS (model prog w) A E s (Ah g) Q u:=by
 unfold Ah
 k_delta "setMinGallop"
 exact wpS_modify (q _ ⟨h.ar,h.pd,h.kd,h.fl⟩)
theorem zC {st u:SortSt}{arr:Array Keyed}{c:Int}{t:Value}{q:Value}{base n hint:Nat}{Q:Option Nat->SortSt->Prop} (g:SS st u) (hc:Rk.rk t=c/\Rk.ok t) (ik:IK arr) (hn:base+n<=arr.size) (r:Ris arr base (base+n)) (hh:hint < n)
  (h:∀k,k<=n->(∀i,i < k->Kr arr (base+i)<=c)->(∀i,k<=i->i < n->c < Kr arr (base+i))->Q (some k) u) :
  wpS (model prog w) A E s (ja false (t,q) arr base n hint) Q u:=by
 refine jR (λi=>!decide (c < Kr arr (base+i))) hh (λi R hi hr=>?_) (λi j hij hj e=>?_) λk k1 k2 k3=>h k k1 (λi hi=>?_) λi i1 i2=>?_
 ·obtain⟨t2,q2,e,oe⟩:=ik (base+i) ‹1›
  refine wpS_bind (cx e ?_)
  rw [if_neg (by decide)]
  exact wpS_bind (nV g.kd hc oe (wpS_pure hr))
 ·have:=r (base+i) (base+j) ‹1› ‹1› ‹1›
  simp only [Bool.not_eq_true',decide_eq_false_iff_not]at e ⊢
  omega
 ·have:=k2 i hi
  simp only [Bool.not_eq_true',decide_eq_false_iff_not]at this
  omega
 ·have:=k3 i i1 i2
  simpa using this
theorem zB {st u:SortSt}{arr:Array Keyed}{c:Int}{t:Value}{q:Value}{base n hint:Nat}{Q:Option Nat->SortSt->Prop} (g:SS st u) (hc:Rk.rk t=c/\Rk.ok t) (ik:IK arr) (hn:base+n<=arr.size) (r:Ris arr base (base+n)) (hh:hint < n)
  (h:∀k,k<=n->(∀i,i < k->Kr arr (base+i) < c)->(∀i,k<=i->i < n->c<=Kr arr (base+i))->Q (some k) u) :
  wpS (model prog w) A E s (ja true (t,q) arr base n hint) Q u:=by
 refine jR (λi=>decide (Kr arr (base+i) < c)) hh (λi R hi hr=>?_) (λi j hij hj e=>?_) λk k1 k2 k3=>h k k1 (λi hi=>?_) λi i1 i2=>?_
 ·obtain⟨t2,q2,e,oe⟩:=ik (base+i) ‹1›
  refine wpS_bind (cx e ?_)
  rw [if_pos rfl]
  exact nV g.kd oe hc hr
 ·have:=r (base+i) (base+j) ‹1› ‹1› ‹1›
  simp only [decide_eq_true_eq]at e ⊢
  omega
 ·simpa using k2 i hi
 ·have:=k3 i i1 i2
  simp only [decide_eq_false_iff_not]at this
  omega
theorem Ris.sub [Rk] {xs:Array Keyed}{a b c d:Nat} (r:Ris xs a b) (h1:a<=c) (h2:d<=b):Ris xs c d:=λi j x y z=>r i j ‹1› y ‹1›
theorem zU {a b:Array Keyed}{st u:SortSt}{Q:Array Keyed->SortSt->Prop} (g:SS st u) (ia:IK a) (ib:IK b) (ra:Ris a 0 a.size) (rb:Ris b 0 b.size) (za:0 < a.size) (zb:0 < b.size)
  (hf:∀i,i < a.size->Kr b 0<=Kr a i) (hl:∀j,j < b.size->Kr b j < Kr a (a.size - 1))
  (h:∀out v,SS st v->Mg a b out->Q out v):wpS (model prog w) A E s (loX a b) Q u:=by
 unfold loX
 k_delta "mergeLo"
 dsimp only
 refine wpS_bind (wpS_lift (wpAny_rule ⟨rfl,?_⟩))
 obtain⟨t0,q0,e0,oe0⟩:=ib 0 zb
 refine wpS_bind (cx e0 ?_)
 have L0:LoI a b #[(t0,q0)] 0 1:=by
  have:=(LoI.takeB (a:=a) (b:=b) (out:=#[]) (ia:=0) (ib:=0) (k:=1) ⟨by simp,by simp,by simp,by simp⟩ ra rb λi i1 i2 i3 i4=>by rw [show i=0 by omega];exact hf 0 i4)
  rw [<- dR e0]at this
  exact this
 by_cases b1:1=b.size
 ·rw [if_pos (by simpa using b1)]
  exact wpS_pure (h _ _ g (L0.done ra rb ‹1› b1))
 rw [if_neg (by simpa using b1)]
 by_cases a1:0+1=a.size
 ·rw [if_pos (by simpa using a1)]
  exact wpS_pure (h _ _ g (L0.lastA ra rb a1 ‹1› λj hj=>Int.le_of_lt (hl j hj)))
 rw [if_neg (by simpa using a1)]
 refine wpS_bind (wpS_get ?_)
 refine wpS_bind (wpS_mono (wpS_forRange (I:=LoA a b st)
  (Q:=LoAQ a b st) ?step ?fin ⟨g,_,0,1,_,rfl,L0,by omega,by omega,by omega⟩) ?post)
 case post=>
  rintro c v ⟨g',r,out,i,j,m,rfl,hm⟩
  exact wpS_pure (h r v g' hm)
 case fin=>
  rintro c v ⟨g',out,i,j,m,rfl,L,x1,x2,x3⟩
  exfalso
  omega
 case step=>
  rintro x c v _ xn ⟨g1,out,i,j,m,rfl,L,x1,x2,x3⟩
  dsimp only
  refine wpS_bind (wpS_mono (wpS_forRange (I:=LoB a b st (i+j))
   (Q:=LoBQ a b st (i+j)) ?step1 ?fin1 ⟨g1,out,i,j,0,0,rfl,L,x1,x2,by omega⟩) ?post1)
  case fin1=>
   rintro c v ⟨g',out,i',j',ac,bc,rfl,L',y1,y2,y3⟩
   exact⟨g',_,out,i',j',ac,bc,rfl,.inr ⟨rfl,L',y1,y2,by omega⟩⟩
  case step1=>
   rintro y c v _ yn ⟨g2,out,i',j',ac,bc,rfl,L',y1,y2,y3⟩
   dsimp only
   obtain⟨tb,qb,eb,oeb⟩:=ib j' y2
   obtain⟨ta,qa,ea,oea⟩:=ia i' ‹1›
   refine wpS_bind (cx eb ?_)
   refine wpS_bind (cx ea ?_)
   refine wpS_bind (nV g2.kd oeb oea ?_)
   by_cases less:Kr b j' < Kr a i'
   ·rw [decide_eq_true less]
    dsimp only
    rw [if_pos rfl]
    refine wpS_bind (cx eb ?_)
    have L2:=L'.takeB (k:=1) ra rb λn n1 n2 n3 n4=>by rw [show n=j' by omega];exact Int.le_of_lt less
    rw [<- dR eb]at L2
    by_cases eb1:j'+1=b.size
    ·rw [if_pos (by simpa using eb1)]
     exact wpS_pure ⟨g2,_,_,_,_,_,_,rfl,.inl ⟨_,rfl,L2.done ra rb ‹1› eb1⟩⟩
    ·rw [if_neg (by simpa using eb1)]
     split
     ·exact wpS_pure ⟨g2,_,_,_,_,_,_,rfl,.inr ⟨rfl,L2,y1,by omega,by omega⟩⟩
     ·exact wpS_pure ⟨g2,_,_,_,_,_,rfl,L2,y1,by omega,by omega⟩
   ·rw [decide_eq_false less]
    dsimp only
    rw [if_neg (by decide)]
    refine wpS_bind (cx ea ?_)
    have L2:=L'.takeA (k:=1) ra rb λn n1 n2 n3 n4=>by rw [show n=i' by omega];omega
    rw [<- dR ea]at L2
    by_cases ea1:i'+1+1=a.size
    ·rw [if_pos (by simpa using ea1)]
     exact wpS_pure ⟨g2,_,_,_,_,_,_,rfl,.inl ⟨_,rfl,L2.lastA ra rb ea1 ‹1› λj hj=>Int.le_of_lt (hl j hj)⟩⟩
    ·rw [if_neg (by simpa using ea1)]
     split
     ·exact wpS_pure ⟨g2,_,_,_,_,_,_,rfl,.inr ⟨rfl,L2,by omega,y2,by omega⟩⟩
     ·exact wpS_pure ⟨g2,_,_,_,_,_,rfl,L2,by omega,y2,by omega⟩
  case post1=>
   rintro c v ⟨g2,o,out,i',j',ac,bc,rfl,(⟨r,rfl,hm⟩ | ⟨rfl,L',y1,y2,y3⟩)⟩
   ·exact wpS_pure ⟨g2,_,_,_,_,_,rfl,hm⟩
   dsimp only
   refine wpS_bind (wpS_lift (wpAny_rule ⟨rfl,?_⟩))
   refine wpS_bind (wpS_mono (wpS_forRange (I:=λ_=>LoC a b st (i+j))
    (Q:=LoCQ a b st (i+j)) ?step2 ?fin2 ⟨g2,out,i',j',_,ac,bc,rfl,L',y1,y2,y3⟩) ?post2)
   case fin2=>
    rintro c v ⟨g',out,i',j',mg,ac,bc,rfl,L',y1,y2,y3⟩
    exact⟨g',_,out,i',j',mg,ac,bc,rfl,.inr ⟨rfl,L',y1,y2,y3⟩⟩
   case post2=>
    rintro c v ⟨g3,o,out,i',j',mg,ac,bc,rfl,(⟨r,rfl,hm⟩ | ⟨rfl,L',y1,y2,y3⟩)⟩
    ·exact wpS_pure ⟨g3,_,_,_,_,_,rfl,hm⟩
    dsimp only
    refine wpS_bind (qq g3 λv2 g4=>?_)
    exact wpS_pure ⟨g4,_,_,_,_,rfl,L',y1,y2,by omega⟩
   case step2=>
    rintro y c v _ yn ⟨g3,out,i',j',mg,ac,bc,rfl,L',y1,y2,y3⟩
    dsimp only
    obtain⟨tb,qb,eb,oeb⟩:=ib j' y2
    refine Decidable.byCases (p:=mg > 1) (λhmg=>?tA) (λhmg=>?tB)
    case' tA=>
     rw [if_pos hmg]
     clear hmg
     generalize mg - 1=mg'
     revert mg'
    case tB=>
     rw [if_neg hmg]
     exact ?tA mg
    case tA=>
     intro mg'
     refine wpS_bind (qq g3 λv2 g4=>?_)
     refine wpS_bind (cx eb ?_)
     refine wpS_bind (zC g4 oeb ia ‹1› (ra.sub ‹1› ‹1›) ‹1› λk k1 k2 k3=>?_)
     dsimp only
     have kz:i'+k < a.size:=by
      apply Classical.byContradiction
      intro hk
      have e1:=k2 (a.size - 1 - i') ‹1›
      rw [show i'+(a.size - 1 - i')=a.size - 1 from Nat.add_sub_of_le ‹1›]at e1
      have e2:=hl j' y2
      omega
     have kl:Kr b j' < Kr a (i'+k):=k3 k (Nat.le_refl _) ‹1›
     have L2:=L'.takeA (k:=k) ra rb λn n1 n2 n3 n4=>by
      have:=k2 (n - i') ‹1›
      rwa [show i'+(n - i')=n from Nat.add_sub_of_le ‹1›]at this
     refine Decidable.byCases (p:=k > 0) (λhk=>?uA) (λhk=>?uB)
     case' uA=>
      rw [if_pos hk]
      by_cases ea1:i'+k+1=a.size
      ·rw [if_pos (by simpa using ea1)]
       exact wpS_pure ⟨g4,_,_,_,_,_,_,_,rfl,.inl ⟨_,rfl,L2.lastA ra rb ea1 ‹1› λj hj=>Int.le_of_lt (hl j hj)⟩⟩
      rw [if_neg (by simpa using ea1),if_neg (by simp only [beq_iff_eq];omega)]
      have I1:i'+k+1 < a.size:=by omega
      have I2:i+j+1<=i'+k+j':=by omega
      clear ea1 hk kz
      revert L2 kl I1 I2
      generalize out++a.extract i' (i'+k)=O
      generalize i'+k=I
      clear k1 k2 k3
      revert O I
      skip
     case uB=>
      rw [if_neg hk]
      have e:k=0:=by omega
      rw [e,Nat.add_zero]at kl
      exact ?uA out i' kl L' y1 y3
     case uA=>
      intro O I kl L2 I1 I2
      refine wpS_bind (cx eb ?_)
      have L3:=L2.takeB (k:=1) ra rb λn n1 n2 n3 n4=>by rw [show n=j' by omega];exact Int.le_of_lt kl
      by_cases eb1:j'+1=b.size
      ·rw [if_pos (by simpa using eb1)]
       rw [<- dR eb]at L3
       exact wpS_pure ⟨g4,_,_,_,_,_,_,_,rfl,.inl ⟨_,rfl,L3.done ra rb ‹1› eb1⟩⟩
      rw [if_neg (by simpa using eb1)]
      rw [<- dR eb]at L3
      obtain⟨ta,qa,ea,oea⟩:=ia I ‹1›
      refine wpS_bind (cx ea ?_)
      refine wpS_bind (zB g4 oea ib ‹1› (rb.sub ‹1› ‹1›) ‹1› λm m1 m2 m3=>?_)
      dsimp only
      have L4:=L3.takeB (k:=m) ra rb λn n1 n2 n3 n4=>by
       have:=m2 (n - (j'+1)) ‹1›
       rw [show j'+1+(n - (j'+1))=n from Nat.add_sub_of_le ‹1›]at this
       exact Int.le_of_lt this
      refine Decidable.byCases (p:=m > 0) (λhm=>?vA) (λhm=>?vB)
      case' vA=>
       rw [if_pos hm]
       by_cases eb2:j'+1+m=b.size
       ·rw [if_pos (by simpa using eb2)]
        exact wpS_pure ⟨g4,_,_,_,_,_,_,_,rfl,.inl ⟨_,rfl,L4.done ra rb ‹1› eb2⟩⟩
       rw [if_neg (by simpa using eb2)]
       have L5:=L4.takeA (k:=1) ra rb λn n1 n2 n3 n4=>by
        rw [show n=I by omega];exact m3 m (Nat.le_refl _) ‹1›
       have J1:j'+1+m < b.size:=by omega
       have J2:i+j+1<=I+1+(j'+1+m):=by omega
       clear eb2 hm L4
       revert L5 J1 J2
       generalize O.push (tb,qb)++b.extract (j'+1) (j'+1+m)=O2
       generalize j'+1+m=J
       revert O2 J
      case vB=>
       rw [if_neg hm]
       have L5:=L3.takeA (k:=1) ra rb λn n1 n2 n3 n4=>by
        rw [show n=I by omega];exact m3 0 ‹1› ‹1›
       exact ?vA _ (j'+1) L5 ‹1› ‹1›
      case vA=>
       intro O2 J L5 J1 J2
       refine wpS_bind (cx ea ?_)
       rw [<- dR ea]at L5
       by_cases ea2:I+1+1=a.size
       ·rw [if_pos (by simpa using ea2)]
        exact wpS_pure ⟨g4,_,_,_,_,_,_,_,rfl,.inl ⟨_,rfl,L5.lastA ra rb ea2 (Nat.le_of_lt J1) λj hj=>Int.le_of_lt (hl j hj)⟩⟩
       rw [if_neg (by simpa using ea2)]
       split
       ·exact wpS_pure ⟨g4,_,_,_,_,_,_,_,rfl,.inr ⟨rfl,L5,by omega,J1,J2⟩⟩
       ·exact wpS_pure ⟨g4,_,_,_,_,_,_,rfl,L5,by omega,J1,J2⟩
end
def HiE [Rk] (a b:Array Keyed) (N:Nat) (o:Option (Array Keyed)) (i' j':Nat) (out:Array Keyed):Prop:=(∃r,o=some r/\Mg a b r)\/(o=none/\HiI a b out.reverse i' j'/\0 < i'/\i'<=a.size/\1 < j'/\j'<=b.size/\i'+j'+1<=N)
inductive HiA [Rk] (a b:Array Keyed) (st:SortSt) (x:Nat) (c:Option (Array Keyed) × Nat × Nat × Array Keyed × Nat) (v:SortSt):Prop
 | mk (g:SS st v) (i j:Nat) (out:Array Keyed) (m:Nat) (e:c=(none,i,j,out,m)) (L:HiI a b out.reverse i j) (h1:0 < i) (h2:i<=a.size) (h3:1 < j) (h4:j<=b.size) (h5:i+j+x+1<=a.size+b.size):HiA a b st x c v
inductive HiAQ [Rk] (a b:Array Keyed) (st:SortSt) (c:Option (Array Keyed) × Nat × Nat × Array Keyed × Nat) (v:SortSt):Prop
 | mk (g:SS st v) (r:Array Keyed) (i j:Nat) (out:Array Keyed) (m:Nat) (e:c=(some r,i,j,out,m)) (hm:Mg a b r):HiAQ a b st c v
inductive HiB [Rk] (a b:Array Keyed) (st:SortSt) (N y:Nat) (c:Option (Array Keyed) × Nat × Nat × Array Keyed × Nat × Nat) (v:SortSt):Prop
 | mk (g:SS st v) (i' j':Nat) (out:Array Keyed) (ac bc:Nat) (e:c=(none,i',j',out,ac,bc)) (L:HiI a b out.reverse i' j') (h1:0 < i') (h2:i'<=a.size) (h3:1 < j') (h4:j'<=b.size) (h5:i'+j'+y<=N):HiB a b st N y c v
inductive HiBQ [Rk] (a b:Array Keyed) (st:SortSt) (N:Nat) (c:Option (Array Keyed) × Nat × Nat × Array Keyed × Nat × Nat) (v:SortSt):Prop
 | mk (g:SS st v) (o:Option (Array Keyed)) (i' j':Nat) (out:Array Keyed) (ac bc:Nat) (e:c=(o,i',j',out,ac,bc)) (h:HiE a b N o i' j' out):HiBQ a b st N c v
inductive HiC [Rk] (a b:Array Keyed) (st:SortSt) (N:Nat) (c:Option (Array Keyed) × Nat × Nat × Array Keyed × Nat × Nat × Nat) (v:SortSt):Prop
 | mk (g:SS st v) (i' j':Nat) (out:Array Keyed) (mg ac bc:Nat) (e:c=(none,i',j',out,mg,ac,bc)) (L:HiI a b out.reverse i' j') (h1:0 < i') (h2:i'<=a.size) (h3:1 < j') (h4:j'<=b.size) (h5:i'+j'+1<=N):HiC a b st N c v
inductive HiCQ [Rk] (a b:Array Keyed) (st:SortSt) (N:Nat) (c:Option (Array Keyed) × Nat × Nat × Array Keyed × Nat × Nat × Nat) (v:SortSt):Prop
 | mk (g:SS st v) (o:Option (Array Keyed)) (i' j':Nat) (out:Array Keyed) (mg ac bc:Nat) (e:c=(o,i',j',out,mg,ac,bc)) (h:HiE a b N o i' j' out):HiCQ a b st N c v
section
variable {prog:Program}{w:World}{A:Around}{E:Value->Shared->Prop}{s:Shared} [RkOk prog w A s]
theorem zV {a b:Array Keyed}{st u:SortSt}{Q:Array Keyed->SortSt->Prop} (g:SS st u) (ia:IK a) (ib:IK b) (ra:Ris a 0 a.size) (rb:Ris b 0 b.size) (za:0 < a.size) (zb:0 < b.size)
  (hf:∀i,i < a.size->Kr b 0 < Kr a i) (hl:∀j,j < b.size->Kr b j < Kr a (a.size - 1))
  (h:∀out v,SS st v->Mg a b out->Q out v):wpS (model prog w) A E s (hiX a b) Q u:=by
 unfold hiX
 k_delta "mergeHi"
 dsimp only
 refine wpS_bind (wpS_lift (wpAny_rule ⟨rfl,?_⟩))
 obtain⟨t0,q0,e0,oe0⟩:=ia (a.size - 1) ‹1›
 refine wpS_bind (cx e0 ?_)
 have hf':∀j,j < a.size->Kr b 0<=Kr a j:=λj hj=>Int.le_of_lt (hf j hj)
 have L0:HiI a b (Array.reverse #[(t0,q0)]) (a.size - 1) b.size:=by
  have:=(HiI.takeA (a:=a) (b:=b) (o:=(#[]:Array Keyed).reverse) (na:=a.size) (nb:=b.size) (i:=a.size - 1) (k:=1) ⟨by simp,by simp,by simp,by simp⟩ ‹1› ra rb ‹1› λj i1 i2 i3 i4=>by rw [show j=a.size - 1 by omega];exact Int.le_of_lt (hl _ ‹1›))
  have e1:=fK (out:=#[]) e0
  rw [show a.size - 1+1=a.size by omega]at e1
  rw [<- e1]at this
  exact this
 by_cases a1:a.size - 1=0
 ·rw [if_pos (by simpa using a1)]
  exact wpS_pure (h _ _ g (L0.done ra rb a1 ‹1›))
 rw [if_neg (by simpa using a1)]
 by_cases b1:b.size=1
 ·rw [if_pos (by simpa using b1)]
  exact wpS_pure (h _ _ g (L0.firstB ra rb ‹1› b1 zb hf'))
 rw [if_neg (by simpa using b1)]
 refine wpS_bind (wpS_get ?_)
 refine wpS_bind (wpS_mono (wpS_forRange (I:=HiA a b st)
  (Q:=HiAQ a b st) ?step ?fin ⟨g,_,_,_,_,rfl,L0,by omega,by omega,by omega,by omega,by omega⟩) ?post)
 case post=>
  rintro c v ⟨g',r,i,j,out,m,rfl,hm⟩
  exact wpS_pure (h r v g' hm)
 case fin=>
  rintro c v ⟨g',i,j,out,m,rfl,L,x1,x2,x3,x4,x5⟩
  exfalso
  omega
 case step=>
  rintro x c v _ xn ⟨g1,i,j,out,m,rfl,L,x1,x2,x3,x4,x5⟩
  dsimp only
  refine wpS_bind (wpS_mono (wpS_forRange (I:=HiB a b st (i+j))
   (Q:=HiBQ a b st (i+j)) ?step1 ?fin1 ⟨g1,i,j,out,0,0,rfl,L,x1,x2,x3,x4,by omega⟩) ?post1)
  case fin1=>
   rintro c v ⟨g',i',j',out,ac,bc,rfl,L',y1,y2,y3,y4,y5⟩
   exact⟨g',_,i',j',out,ac,bc,rfl,.inr ⟨rfl,L',y1,y2,y3,y4,by omega⟩⟩
  case step1=>
   rintro y c v _ yn ⟨g2,i',j',out,ac,bc,rfl,L',y1,y2,y3,y4,y5⟩
   dsimp only
   obtain⟨tb,qb,eb,oeb⟩:=ib (j' - 1) ‹1›
   obtain⟨ta,qa,ea,oea⟩:=ia (i' - 1) ‹1›
   refine wpS_bind (cx eb ?_)
   refine wpS_bind (cx ea ?_)
   refine wpS_bind (nV g2.kd oeb oea ?_)
   by_cases less:Kr b (j' - 1) < Kr a (i' - 1)
   ·rw [decide_eq_true less]
    dsimp only
    rw [if_pos rfl]
    refine wpS_bind (cx ea ?_)
    have L2:=L'.takeA (i:=i' - 1) (k:=1) ‹1› ra rb y4 λn n1 n2 n3 n4=>by rw [show n=i' - 1 by omega];exact Int.le_of_lt less
    have e1:=fK (out:=out) ea
    rw [show i' - 1+1=i' by omega]at e1
    rw [<- e1]at L2
    by_cases ea1:i' - 1=0
    ·rw [if_pos (by simpa using ea1)]
     exact wpS_pure ⟨g2,_,_,_,_,_,_,rfl,.inl ⟨_,rfl,L2.done ra rb ea1 y4⟩⟩
    ·rw [if_neg (by simpa using ea1)]
     split
     ·exact wpS_pure ⟨g2,_,_,_,_,_,_,rfl,.inr ⟨rfl,L2,by omega,by omega,y3,y4,by omega⟩⟩
     ·exact wpS_pure ⟨g2,_,_,_,_,_,rfl,L2,by omega,by omega,y3,y4,by omega⟩
   ·rw [decide_eq_false less]
    dsimp only
    rw [if_neg (by decide)]
    refine wpS_bind (cx eb ?_)
    have L2:=L'.takeB (i:=j' - 1) (k:=1) ‹1› ra rb y2 λn n1 n2 n3 n4=>by rw [show n=j' - 1 by omega];omega
    have e1:=fK (out:=out) eb
    rw [show j' - 1+1=j' by omega]at e1
    rw [<- e1]at L2
    by_cases eb1:j' - 1=1
    ·rw [if_pos (by simpa using eb1)]
     exact wpS_pure ⟨g2,_,_,_,_,_,_,rfl,.inl ⟨_,rfl,L2.firstB ra rb y2 eb1 zb hf'⟩⟩
    ·rw [if_neg (by simpa using eb1)]
     split
     ·exact wpS_pure ⟨g2,_,_,_,_,_,_,rfl,.inr ⟨rfl,L2,y1,y2,by omega,by omega,by omega⟩⟩
     ·exact wpS_pure ⟨g2,_,_,_,_,_,rfl,L2,y1,y2,by omega,by omega,by omega⟩
  case post1=>
   rintro c v ⟨g2,o,i',j',out,ac,bc,rfl,(⟨r,rfl,hm⟩ | ⟨rfl,L',y1,y2,y3,y4,y5⟩)⟩
   ·exact wpS_pure ⟨g2,_,_,_,_,_,rfl,hm⟩
   dsimp only
   refine wpS_bind (wpS_lift (wpAny_rule ⟨rfl,?_⟩))
   refine wpS_bind (wpS_mono (wpS_forRange (I:=λ_=>HiC a b st (i+j))
    (Q:=HiCQ a b st (i+j)) ?step2 ?fin2 ⟨g2,i',j',out,_,ac,bc,rfl,L',y1,y2,y3,y4,y5⟩) ?post2)
   case fin2=>
    rintro c v ⟨g',i',j',out,mg,ac,bc,rfl,L',y1,y2,y3,y4,y5⟩
    exact⟨g',_,i',j',out,mg,ac,bc,rfl,.inr ⟨rfl,L',y1,y2,y3,y4,y5⟩⟩
   case post2=>
    rintro c v ⟨g3,o,i',j',out,mg,ac,bc,rfl,(⟨r,rfl,hm⟩ | ⟨rfl,L',y1,y2,y3,y4,y5⟩)⟩
    ·exact wpS_pure ⟨g3,_,_,_,_,_,rfl,hm⟩
    dsimp only
    refine wpS_bind (qq g3 λv2 g4=>?_)
    exact wpS_pure ⟨g4,_,_,_,_,rfl,L',y1,y2,y3,y4,by omega⟩
   case step2=>
    rintro y c v _ yn ⟨g3,i',j',out,mg,ac,bc,rfl,L',y1,y2,y3,y4,y5⟩
    dsimp only
    obtain⟨tb,qb,eb,oeb⟩:=ib (j' - 1) ‹1›
    refine Decidable.byCases (p:=mg > 1) (λhmg=>?tA) (λhmg=>?tB)
    case' tA=>
     rw [if_pos hmg]
     clear hmg
     generalize mg - 1=mg'
     revert mg'
    case tB=>
     rw [if_neg hmg]
     exact ?tA mg
    case tA=>
     intro mg'
     refine wpS_bind (qq g3 λv2 g4=>?_)
     refine wpS_bind (cx eb ?_)
     refine wpS_bind (zC g4 oeb ia ‹1› (ra.sub ‹1› ‹1›) ‹1› λk k1 k2 k3=>?_)
     dsimp only
     simp only [Nat.zero_add]at k2 k3
     have kl:0 < k->Kr a (k - 1)<=Kr b (j' - 1):=λhk=>k2 (k - 1) ‹1›
     have L2:=L'.takeA (i:=k) (k:=i' - k) ‹1› ra rb y4 λn n1 n2 n3 n4=>Int.le_of_lt (k3 n n1 n2)
     rw [<- qw]at L2
     refine Decidable.byCases (p:=i' - k > 0) (λhk=>?uA) (λhk=>?uB)
     case' uA=>
      rw [if_pos hk]
      by_cases ea1:k=0
      ·rw [if_pos (by simpa using ea1)]
       exact wpS_pure ⟨g4,_,_,_,_,_,_,_,rfl,.inl ⟨_,rfl,L2.done ra rb ea1 y4⟩⟩
      rw [if_neg (by simpa using ea1)]
      have kl1:=kl ‹1›
      have I1:0 < k:=by omega
      have I2:k<=a.size:=by omega
      have I3:k+j'+1<=i+j:=by omega
      clear ea1 hk
      revert L2 kl1 I1 I2 I3
      generalize out++(a.extract k i').reverse=O
      generalize i' - k=ct
      generalize k=I
      revert O ct I
     case uB=>
      rw [if_neg hk]
      have e:k=i':=by omega
      have kl1:=kl ‹1›
      rw [e]at kl1
      exact ?uA out _ i' L' kl1 y1 y2 y5
     case uA=>
      intro O ct I L2 kl I1 I2 I3
      refine wpS_bind (cx eb ?_)
      have L3:=L2.takeB (i:=j' - 1) (k:=1) ‹1› ra rb I2 λn n1 n2 n3 n4=>by rw [show n=j' - 1 by omega];exact kl
      have e1:=fK (out:=O) eb
      rw [show j' - 1+1=j' by omega]at e1
      rw [<- e1]at L3
      by_cases eb1:j' - 1=1
      ·rw [if_pos (by simpa using eb1)]
       exact wpS_pure ⟨g4,_,_,_,_,_,_,_,rfl,.inl ⟨_,rfl,L3.firstB ra rb I2 eb1 zb hf'⟩⟩
      rw [if_neg (by simpa using eb1)]
      obtain⟨ta,qa,ea,oea⟩:=ia (I - 1) ‹1›
      refine wpS_bind (cx ea ?_)
      refine wpS_bind (zB g4 oea ib ‹1› (rb.sub ‹1› ‹1›) ‹1› λm m1 m2 m3=>?_)
      dsimp only
      simp only [Nat.zero_add]at m2 m3
      have mz:0 < m:=by
       apply Classical.byContradiction
       intro hm
       have:=m3 0 ‹1› ‹1›
       have:=hf (I - 1) ‹1›
       omega
      have L4:=L3.takeB (i:=m) (k:=j' - 1 - m) ‹1› ra rb I2 λn n1 n2 n3 n4=>m3 n n1 n2
      rw [<- qw]at L4
      refine Decidable.byCases (p:=j' - 1 - m > 0) (λhm=>?vA) (λhm=>?vB)
      case' vA=>
       rw [if_pos hm]
       by_cases eb2:m=1
       ·rw [if_pos (by simpa using eb2)]
        exact wpS_pure ⟨g4,_,_,_,_,_,_,_,rfl,.inl ⟨_,rfl,L4.firstB ra rb I2 eb2 zb hf'⟩⟩
       rw [if_neg (by simpa using eb2),if_neg (by simp only [beq_iff_eq];omega)]
       have L5:=L4.takeA (i:=I - 1) (k:=1) ‹1› ra rb ‹1› λn n1 n2 n3 n4=>by
        rw [show n=I - 1 by omega];exact Int.le_of_lt (m2 (m - 1) ‹1›)
       have J1:1 < m:=by omega
       have J2:m<=b.size:=by omega
       have J3:I - 1+m+1<=i+j:=by omega
       clear eb2 hm
       revert L5 J1 J2 J3
       generalize O.push (tb,qb)++(b.extract m (j' - 1)).reverse=O2
       generalize j' - 1 - m=ct2
       generalize m=M
       revert O2 ct2 M
      case vB=>
       rw [if_neg hm]
       have L5:=L3.takeA (i:=I - 1) (k:=1) ‹1› ra rb ‹1› λn n1 n2 n3 n4=>by
        rw [show n=I - 1 by omega]
        have:=m2 (j' - 1 - 1) ‹1›
        exact Int.le_of_lt this
       exact ?vA _ _ (j' - 1) L5 ‹1› ‹1› ‹1›
      case vA=>
       intro O2 ct2 M L5 J1 J2 J3
       refine wpS_bind (cx ea ?_)
       have e3:=fK (out:=O2) ea
       rw [show I - 1+1=I by omega]at e3
       rw [<- e3]at L5
       by_cases ea2:I - 1=0
       ·rw [if_pos (by simpa using ea2)]
        exact wpS_pure ⟨g4,_,_,_,_,_,_,_,rfl,.inl ⟨_,rfl,L5.done ra rb ea2 J2⟩⟩
       rw [if_neg (by simpa using ea2)]
       split
       ·exact wpS_pure ⟨g4,_,_,_,_,_,_,_,rfl,.inr ⟨rfl,L5,by omega,by omega,J1,J2,by omega⟩⟩
       ·exact wpS_pure ⟨g4,_,_,_,_,_,_,rfl,L5,by omega,by omega,J1,J2,by omega⟩
end
theorem m8 [Rk] {xs:Array Keyed}{a n:Nat} (h:a+n<=xs.size):Ris xs a (a+n)↔(((xs.toList.drop a).take n).map ky).Pairwise (·<=·):=by
 rw [List.pairwise_iff_getElem]
 have hk:∀i (hi:i < (((xs.toList.drop a).take n).map ky).length),(((xs.toList.drop a).take n).map ky)[i]=Kr xs (a+i):=by
  intro i hi
  rw [List.length_map,List.length_take,List.length_drop,Array.length_toList]at hi
  rw [List.getElem_map,List.getElem_take,List.getElem_drop,xL (getElem?_pos xs (a+i) ‹1›)]
  rfl
 constructor
 ·intro r i j hi hj hij
  rw [hk i hi,hk j hj]
  rw [List.length_map,List.length_take,List.length_drop,Array.length_toList]at hi hj
  exact r _ _ ‹1› ‹1› ‹1›
 ·intro r i j h1 h2 h3
  by_cases e:i=j
  ·rw [e];exact Int.le_refl _
  ·have hl:(((xs.toList.drop a).take n).map ky).length=n:=by
    rw [List.length_map,List.length_take,List.length_drop,Array.length_toList];omega
   have:=r (i - a) (j - a) ‹1› ‹1› ‹1›
   rw [hk,hk,show a+(i - a)=i from Nat.add_sub_of_le ‹1›,show a+(j - a)=j from Nat.add_sub_of_le ‹1›]at this
   exact this
theorem nZ (base:Nat):∀(l:List Keyed) (n:Nat) (xs:Array Keyed),base+n+l.length<=xs.size->
  ((l.zipIdx n).foldl (λa x=>a.setIfInBounds (base+x.snd) x.fst) xs).toList=xs.toList.take (base+n)++l++xs.toList.drop (base+n+l.length)
 | [],n,xs,h=>by simp
 | x::l,n,xs,h=>by
  rw [List.length_cons]at h
  rw [List.zipIdx_cons,List.foldl_cons,nZ base l (n+1) _ (by rw [Array.size_setIfInBounds];omega)]
  dsimp only
  rw [Array.toList_setIfInBounds,List.length_cons]
  have e1:(xs.toList.set (base+n) x).take (base+(n+1))=xs.toList.take (base+n)++[x]:=by
   apply List.ext_getElem?
   intro i
   rw [List.getElem?_take,List.getElem?_set,List.getElem?_append,List.getElem?_take]
   have hl:(xs.toList.take (base+n)).length=base+n:=by rw [List.length_take,Array.length_toList];exact Nat.min_eq_left ‹1›
   rw [hl]
   by_cases c1:i < base+n
   ·rw [if_pos ‹1›,if_neg ‹1›,if_pos c1,if_pos c1]
   ·by_cases c2:i=base+n
    ·subst c2
     rw [if_pos ‹1›,if_pos rfl,if_neg c1,Nat.sub_self,if_pos (by rw [Array.length_toList];omega)]
     rfl
    ·rw [if_neg ‹1›,if_neg c1]
     obtain⟨d,hd⟩:∃d,i - (base+n)=d+1:=⟨i - (base+n) - 1,by omega⟩
     rw [hd]
     simp
  have e2:(xs.toList.set (base+n) x).drop (base+(n+1)+l.length)=xs.toList.drop (base+n+(l.length+1)):=by
   rw [List.drop_set_of_lt ‹1›]
   congr 1
   omega
  rw [e1,e2]
  simp
theorem qG {xs:Array Keyed}{a b i:Nat} (hb:b<=xs.size) (hi:i < b - a):(xs.extract a b)[i]?=xs[a+i]?:=by
 rw [Array.getElem?_extract,if_pos (by rw [Nat.min_eq_left hb];exact hi)]
theorem jZ [Rk] {xs:Array Keyed}{a b i:Nat} (hb:b<=xs.size) (hi:i < b - a):Kr (xs.extract a b) i=Kr xs (a+i):=dY (qG hb hi)
theorem hZ {xs:Array Keyed}{a b:Nat} (hb:b<=xs.size):(xs.extract a b).size=b - a:=by
 rw [Array.size_extract,Nat.min_eq_left hb]
theorem mn [Rk] {xs:Array Keyed}{a b:Nat} (ik:IK xs) (hb:b<=xs.size):IK (xs.extract a b):=by
 intro i hi
 rw [hZ hb]at hi
 obtain⟨t,q,e,oe⟩:=ik (a+i) ‹1›
 exact⟨t,q,by rw [qG hb hi];exact e,by rw [jZ hb hi];exact oe⟩
theorem j4 [Rk] {xs:Array Keyed}{a b:Nat} (r:Ris xs a b) (hb:b<=xs.size):Ris (xs.extract a b) 0 (xs.extract a b).size:=by
 intro i j h1 h2 h3
 rw [hZ hb]at h3
 rw [jZ hb ‹1›,jZ hb h3]
 exact r _ _ ‹1› ‹1› ‹1›
theorem pA (L:List Keyed){i j k:Nat} (h1:i<=j) (h2:j<=k):L=L.take i++((L.drop i).take (j - i)++(L.drop j).take (k - j))++L.drop k:=by
 have e1:L.drop i=(L.drop i).take (j - i)++L.drop j:=by
  have:=dW L i (j - i)
  rwa [show i+(j - i)=j from Nat.add_sub_of_le ‹1›]at this
 have e2:L.drop j=(L.drop j).take (k - j)++L.drop k:=by
  have:=dW L j (k - j)
  rwa [show j+(k - j)=k from Nat.add_sub_of_le ‹1›]at this
 calc L=L.take i++L.drop i:=(List.take_append_drop i L).symm
  _=L.take i++((L.drop i).take (j - i)++((L.drop j).take (k - j)++L.drop k)):=by rw [<- e2,<- e1]
  _=_:=by simp only [List.append_assoc]
theorem se [Rk] {xs ys:Array Keyed}{M:Array Keyed}{sa sb na nb i k:Nat} (h1:sa<=i) (h2:i<=sb) (h3:sb<=k) (h4:k<=sb+nb) (h5:sb=sa+na) (hz:sb+nb<=xs.size)
  (m:Mg (xs.extract i sb) (xs.extract sb k) M) (e:ys.toList=xs.toList.take i++M.toList++xs.toList.drop k)
  (ra:Ris xs sa sb) (rb:Ris xs sb (sb+nb)) (lo:∀j,sa<=j->j < i->∀j',sb<=j'->j' < sb+nb->Kr xs j<=Kr xs j') (hi:∀j,sa<=j->j < sb->∀j',k<=j'->j' < sb+nb->Kr xs j<=Kr xs j') :
  ys.Perm xs/\Ris ys sa (sb+nb)/\(∀j,j < sa\/sb+nb<=j->Kr ys j=Kr xs j):=by
 have ex:(xs.extract i sb).toList=(xs.toList.drop i).take (sb - i):=by
  have:=bq xs i (sb - i)
  rwa [show i+(sb - i)=sb from Nat.add_sub_of_le ‹1›]at this
 have ey:(xs.extract sb k).toList=(xs.toList.drop sb).take (k - sb):=by
  have:=bq xs sb (k - sb)
  rwa [show sb+(k - sb)=k from Nat.add_sub_of_le ‹1›]at this
 have mp:=m.pm
 rw [ex,ey]at mp
 have ml:M.toList.length=k - i:=by
  rw [mp.length_eq,List.length_append,List.length_take,List.length_take,List.length_drop,List.length_drop,Array.length_toList,Nat.min_eq_left ‹1›,Nat.min_eq_left ‹1›]
  omega
 have pm:ys.toList.Perm xs.toList:=by
  rw [e]
  conv=>rhs;rw [pA xs.toList h2 h3]
  exact(mp.append_left _).append_right _
 have ysz:ys.size=xs.size:=by rw [<- Array.length_toList,<- Array.length_toList];exact pm.length_eq
 refine⟨Array.perm_iff_toList_perm.mpr pm,?_,?_⟩
 ·rw [show sb+nb=sa+(na+nb) by omega,m8 ‹1›]
  have el:(ys.toList.drop sa).take (na+nb)=(xs.toList.drop sa).take (i - sa)++(M.toList++(xs.toList.drop k).take (sb+nb - k)):=by
   rw [e,List.append_assoc,List.drop_append,List.take_append]
   have z:(xs.toList.take i).length=i:=by rw [List.length_take,Array.length_toList];exact Nat.min_eq_left ‹1›
   rw [z,show sa - i=0 by omega,List.drop_zero,List.drop_take,List.take_take]
   rw [List.length_take,List.length_drop,Array.length_toList,Nat.min_eq_right (show i - sa<=na+nb by omega),Nat.min_eq_left (show i - sa<=xs.size - sa by omega)]
   congr 1
   rw [List.take_append,ml]
   rw [List.take_of_length_le ‹1›,Nat.sub_sub,show i - sa+(k - i)=k - sa by omega,show na+nb - (k - sa)=sb+nb - k by rw [h5];omega]
  have mem:∀q∈M.toList,(∃j,i<=j/\j < sb/\ky q=Kr xs j)\/(∃j,sb<=j/\j < k/\ky q=Kr xs j):=by
   intro q hq
   rcases List.mem_append.mp (mp.mem_iff.mp hq) with hq | hq
   ·obtain⟨j,j1,j2,j3,e⟩:=bp hq
    exact .inl ⟨j,j1,by omega,e⟩
   ·obtain⟨j,j1,j2,j3,e⟩:=bp hq
    exact .inr ⟨j,j1,by omega,e⟩
  rw [el,List.map_append,List.map_append,List.pairwise_append,List.pairwise_append]
  refine⟨(m8 ‹1›).mp (ra.sub (Nat.le_refl _) ‹1›),⟨m.so,?_,?_⟩,?_⟩
  ·exact(m8 ‹1›).mp (rb.sub h3 ‹1›)
  ·intro x hx y hy
   obtain⟨q,hq,rfl⟩:=List.mem_map.mp hx
   obtain⟨p,hp,rfl⟩:=List.mem_map.mp hy
   obtain⟨j',a1,a2,a3,e'⟩:=bp hp
   rw [e']
   rcases mem q hq with⟨j,j1,j2,e⟩ | ⟨j,j1,j2,e⟩
   ·rw [e];exact hi j ‹1› j2 j' a1 ‹1›
   ·rw [e];exact rb j j' j1 ‹1› ‹1›
  ·intro x hx y hy
   obtain⟨q,hq,rfl⟩:=List.mem_map.mp hx
   rw [<- List.map_append]at hy
   obtain⟨p,hp,rfl⟩:=List.mem_map.mp hy
   obtain⟨j,j1,j2,j3,e⟩:=bp hq
   rw [e]
   rcases List.mem_append.mp hp with hp | hp
   ·rcases mem p hp with⟨j',a1,a2,e'⟩ | ⟨j',a1,a2,e'⟩
    ·rw [e'];exact ra j j' j1 ‹1› a2
    ·rw [e'];exact lo j j1 ‹1› j' a1 ‹1›
   ·obtain⟨j',a1,a2,a3,e'⟩:=bp hp
    rw [e'];exact lo j j1 ‹1› j' ‹1› ‹1›
 ·intro j hj
  apply dY
  rw [<- Array.getElem?_toList,<- Array.getElem?_toList,e]
  rcases hj with hj | hj
  ·rw [List.append_assoc,List.getElem?_append_left (by rw [List.length_take,Array.length_toList,Nat.min_eq_left ‹1›];omega),List.getElem?_take,if_pos ‹1›]
  ·rw [List.getElem?_append_right (by rw [List.length_append,List.length_take,Array.length_toList,ml,Nat.min_eq_left ‹1›];omega),List.length_append,List.length_take,Array.length_toList,ml,List.getElem?_drop,Nat.min_eq_left (show i<=xs.size by omega)]
   congr 1
   omega
section
variable {prog:Program}{w:World}{A:Around}{E:Value->Shared->Prop}{s:Shared} [RkOk prog w A s] {a₀:Array Keyed}{p:Array (Nat × Nat × Nat)}
theorem zX {σ:Type}{st x:σ}{Q:PUnit->σ->Prop} (h:Q ⟨⟩ x):wpS (model prog w) A E s (set x:StateT σ Sem PUnit) Q st:=by
 unfold wpS;rw [StateT.run_set];exact zP0 ⟨rfl,h⟩
theorem zW {st:SortSt}{i sa na sb nb w1 w2:Nat}{Q:Bool->SortSt->Prop} (h0:dX a₀) (g:SG a₀ p st) (e1:p[i]?=some (sa,na,w1)) (e2:p[i+1]?=some (sb,nb,w2))
  (h5:sb=sa+na) (hz:sb+nb<=a₀.size) (za:0 < na) (zb:0 < nb) (ra:Ris (arrOf st) sa sb) (rb:Ris (arrOf st) sb (sb+nb))
  (h:∀v,SG a₀ ((p.setIfInBounds i (sa,na+nb,w1)).eraseIdxIfInBounds (i+1)) v->Ris (arrOf v) sa (sb+nb)->(∀j,j < sa\/sb+nb<=j->Kr (arrOf v) j=Kr (arrOf st) j)->Q true v) :
  wpS (model prog w) A E s (mergeAt' i) Q st:=by
 unfold mergeAt'
 k_delta "mergeAt"
 dsimp only
 refine wpS_bind (wpS_get ?_)
 have hp:=g.pd
 have sz:=g.sz
 have ik:IK (arrOf st):=λj hj=>g.get h0 ‹1›
 obtain⟨tb,qb,eb,oeb⟩:=ik sb ‹1›
 obtain⟨ta,qa,ea,oea⟩:=ik (sb - 1) ‹1›
 have o1:(pendingOf st)[i]?=some (sa,na,w1):=by rw [hp];exact e1
 have o2:(pendingOf st)[i+1]?=some (sb,nb,w2):=by rw [hp];exact e2
 show wpS _ _ _ _ (match ((pendingOf st)[i]?,(pendingOf st)[i+1]?) with | (some (sa,na,power),some (sb,nb,snd))=>_ | _=>_) _ _
 rw [o1,o2]
 dsimp only
 refine wpS_bind (zX ?_)
 have hp2:((pendingOf st).setIfInBounds i (sa,na+nb,w1)).eraseIdxIfInBounds (i+1)=(p.setIfInBounds i (sa,na+nb,w1)).eraseIdxIfInBounds (i+1):=by rw [hp]
 have g2:SG a₀ ((p.setIfInBounds i (sa,na+nb,w1)).eraseIdxIfInBounds (i+1)) (SortSt.mk' (kindOf st) (arrOf st) (((pendingOf st).setIfInBounds i (sa,na+nb,w1)).eraseIdxIfInBounds (i+1)) (gallopOf st) (failedOf st)):=⟨g.pm,g.kd,g.fl,hp2⟩
 have s2:SS (SortSt.mk' (kindOf st) (arrOf st) (((pendingOf st).setIfInBounds i (sa,na+nb,w1)).eraseIdxIfInBounds (i+1)) (gallopOf st) (failedOf st)) (SortSt.mk' (kindOf st) (arrOf st) (((pendingOf st).setIfInBounds i (sa,na+nb,w1)).eraseIdxIfInBounds (i+1)) (gallopOf st) (failedOf st)):=⟨rfl,rfl,g.kd,g.fl⟩
 refine wpS_bind (cx eb ?_)
 refine wpS_bind (zC (arr:=arrOf st) s2 oeb ik ‹1› (by rw [<- h5];exact ra) ‹1› λk k1 k2 k3=>?_)
 dsimp only
 by_cases kn:na - k=0
 ·rw [if_pos (by simpa using kn)]
  refine wpS_pure (h _ g2 (λj j' a1 a2 a3=>?_) λ_ _=>rfl)
  by_cases c1:j' < sb
  ·exact ra j j' a1 a2 c1
  ·by_cases c2:j < sb
   ·have:=k2 (j - sa) ‹1›
    rw [show sa+(j - sa)=j from Nat.add_sub_of_le ‹1›]at this
    exact Int.le_trans this (rb sb j' (Nat.le_refl _) ‹1› a3)
   ·exact rb j j' ‹1› a2 a3
 rw [if_neg (by simpa using kn)]
 rw [show sa+k+(na - k) - 1=sb - 1 by rw [Nat.add_assoc,Nat.add_sub_of_le ‹1›,h5]]
 refine wpS_bind (cx ea ?_)
 refine wpS_bind (zB (arr:=arrOf st) s2 oea ik ‹1› rb ‹1› λm m1 m2 m3=>?_)
 dsimp only
 by_cases mz:m=0
 ·rw [if_pos (by simpa using mz)]
  refine wpS_pure (h _ g2 (λj j' a1 a2 a3=>?_) λ_ _=>rfl)
  by_cases c1:j' < sb
  ·exact ra j j' a1 a2 c1
  ·by_cases c2:j < sb
   ·have:=m3 (j' - sb) ‹1› ‹1›
    rw [show sb+(j' - sb)=j' by omega]at this
    exact Int.le_trans (ra j (sb - 1) a1 ‹1› ‹1›) this
   ·exact rb j j' ‹1› a2 a3
 rw [if_neg (by simpa using mz)]
 have zx:((arrOf st).extract (sa+k) sb).size=sb - (sa+k):=hZ ‹1›
 have zy:((arrOf st).extract sb (sb+m)).size=m:=by rw [hZ ‹1›];omega
 have kk:∀j,sa+k<=j->j < sb->Kr (arrOf st) sb < Kr (arrOf st) j:=λj j1 j2=>by
  have:=k3 (j - sa) ‹1› ‹1›
  rwa [show sa+(j - sa)=j from Nat.add_sub_of_le ‹1›]at this
 have mm:∀j,sb<=j->j < sb+m->Kr (arrOf st) j < Kr (arrOf st) (sb - 1):=λj j1 j2=>by
  have:=m2 (j - sb) ‹1›
  rwa [show sb+(j - sb)=j from Nat.add_sub_of_le ‹1›]at this
 have hf:∀j,j < ((arrOf st).extract (sa+k) sb).size->Kr ((arrOf st).extract sb (sb+m)) 0 < Kr ((arrOf st).extract (sa+k) sb) j:=λj hj=>by
  rw [jZ ‹1› ‹1›,jZ ‹1› ‹1›]
  exact kk _ ‹1› ‹1›
 have hl:∀j,j < ((arrOf st).extract sb (sb+m)).size->Kr ((arrOf st).extract sb (sb+m)) j < Kr ((arrOf st).extract (sa+k) sb) (((arrOf st).extract (sa+k) sb).size - 1):=λj hj=>by
  rw [jZ ‹1› ‹1›,jZ ‹1› ‹1›,zx,show sa+k+(sb - (sa+k) - 1)=sb - 1 by rw [<- Nat.add_sub_assoc ‹1›,Nat.add_sub_of_le ‹1›]]
  exact mm _ ‹1› ‹1›
 have fin:∀M v,SS (SortSt.mk' (kindOf st) (arrOf st) (((pendingOf st).setIfInBounds i (sa,na+nb,w1)).eraseIdxIfInBounds (i+1)) (gallopOf st) (failedOf st)) v->Mg ((arrOf st).extract (sa+k) sb) ((arrOf st).extract sb (sb+m)) M->
   Q true (setArr v (M.toList.zipIdx.foldl (λa x=>a.setIfInBounds (sa+k+x.snd) x.fst) (arrOf v))):=by
  intro M v sv mg
  have ml:M.toList.length=sb - (sa+k)+m:=by
   rw [mg.pm.length_eq,List.length_append,Array.length_toList,Array.length_toList,zx,zy]
  have ar:arrOf v=arrOf st:=sv.ar
  have el:=nZ (sa+k) M.toList 0 (arrOf v) (by rw [ar,ml];omega)
  rw [ar,Nat.add_zero,ml,show sa+k+(sb - (sa+k)+m)=sb+m by rw [<- Nat.add_assoc,Nat.add_sub_of_le ‹1›]]at el
  have r:=se ‹1› ‹1› ‹1› ‹1› h5 ‹1› mg el ra rb (λj a1 a2 j' a3 a4=>?_) (λj a1 a2 j' a3 a4=>?_)
  ·have e4:arrOf (setArr v (M.toList.zipIdx.foldl (λa x=>a.setIfInBounds (sa+k+x.snd) x.fst) (arrOf v)))=M.toList.zipIdx.foldl (λa x=>a.setIfInBounds (sa+k+x.snd) x.fst) (arrOf st):=by
    show M.toList.zipIdx.foldl (λa x=>a.setIfInBounds (sa+k+x.snd) x.fst) (arrOf v)=_
    rw [ar]
   refine h _ ⟨?_,sv.kd,sv.fl,sv.pd.trans hp2⟩ ?_ ?_
   ·rw [e4];exact r.1.trans g.pm
   ·rw [e4];exact r.2.1
   ·rw [e4];exact r.2.2
  ·have:=k2 (j - sa) ‹1›
   rw [show sa+(j - sa)=j from Nat.add_sub_of_le ‹1›]at this
   exact Int.le_trans this (rb sb j' (Nat.le_refl _) a3 a4)
  ·have:=m3 (j' - sb) ‹1› ‹1›
   rw [show sb+(j' - sb)=j' by omega]at this
   exact Int.le_trans (ra j (sb - 1) a1 ‹1› ‹1›) this
 have isn:∀v,SS (SortSt.mk' (kindOf st) (arrOf st) (((pendingOf st).setIfInBounds i (sa,na+nb,w1)).eraseIdxIfInBounds (i+1)) (gallopOf st) (failedOf st)) v->∀xs,(failedOf (setArr v xs)).isNone=true:=λv sv xs=>by
  show (failedOf v).isNone=true
  rw [sv.fl];rfl
 by_cases c:na - k<=m
 ·rw [if_pos c]
  refine wpS_bind (zU (a:=(arrOf st).extract (sa+k) sb) (b:=(arrOf st).extract sb (sb+m)) s2 (mn ik ‹1›) (mn ik ‹1›) (j4 (ra.sub ‹1› ‹1›) ‹1›) (j4 (rb.sub ‹1› ‹1›) ‹1›) ‹1› ‹1› (λj hj=>Int.le_of_lt (hf j hj)) hl λM v sv mg=>?_)
  refine wpS_bind (wpS_modify (wpS_bind (wpS_get ?_)))
  have:=wpS_pure (M:=model prog w) (A:=A) (E:=E) (s:=s) (fin M v sv mg)
  rw [<- isn v sv]at this
  exact this
 ·rw [if_neg c]
  refine wpS_bind (zV (a:=(arrOf st).extract (sa+k) sb) (b:=(arrOf st).extract sb (sb+m)) s2 (mn ik ‹1›) (mn ik ‹1›) (j4 (ra.sub ‹1› ‹1›) ‹1›) (j4 (rb.sub ‹1› ‹1›) ‹1›) ‹1› ‹1› hf hl λM v sv mg=>?_)
  refine wpS_bind (wpS_modify (wpS_bind (wpS_get ?_)))
  have:=wpS_pure (M:=model prog w) (A:=A) (E:=E) (s:=s) (fin M v sv mg)
  rw [<- isn v sv]at this
  exact this
end
noncomputable def pr (q:Nat × Nat × Nat):Nat × Nat:=(q.1,q.2.1)
noncomputable def cV [Rk] (xs:Array Keyed):List (Nat × Nat)->Nat->Nat->Prop
 | [],lo,hi=>lo=hi
 | (b,n)::r,lo,hi=>b=lo/\1<=n/\Ris xs lo (lo+n)/\cV xs r (lo+n) hi
theorem cV.len [Rk] {xs:Array Keyed}:∀{l:List (Nat × Nat)}{lo hi:Nat},cV xs l lo hi->lo+l.length<=hi
 | [],lo,hi,h=>by cases h;simp
 | (b,n)::r,lo,hi,h=>by
  have:=h.2.2.2.len
  have:=h.2.1
  rw [List.length_cons];omega
theorem cV.app [Rk] {xs:Array Keyed}:∀{l r:List (Nat × Nat)}{lo hi:Nat},cV xs (l++r) lo hi↔∃m,cV xs l lo m/\cV xs r m hi
 | [],r,lo,hi=>⟨λh=>⟨lo,rfl,h⟩,λ⟨m,e,h⟩=>by cases e;exact h⟩
 | (b,n)::l,r,lo,hi=>by
  constructor
  ·rintro⟨h1,h2,h3,h4⟩
   obtain⟨m,a,b⟩:=cV.app.mp h4
   exact⟨m,⟨h1,h2,h3,a⟩,b⟩
  ·rintro⟨m,⟨h1,h2,h3,h4⟩,h5⟩
   exact⟨h1,h2,h3,cV.app.mpr ⟨m,h4,h5⟩⟩
theorem Ris.same [Rk] {xs ys:Array Keyed}{a b:Nat} (r:Ris xs a b) (h:∀k,a<=k->k < b->Kr ys k=Kr xs k):Ris ys a b:=λi j h1 h2 h3=>by
 rw [h i h1 ‹1›,h j ‹1› h3];exact r i j h1 h2 h3
theorem cV.same [Rk] {xs ys:Array Keyed}:∀{l:List (Nat × Nat)}{lo hi:Nat},cV xs l lo hi->(∀k,lo<=k->k < hi->Kr ys k=Kr xs k)->cV ys l lo hi
 | [],lo,hi,h,_=>h
 | (b,n)::r,lo,hi,h,e=>⟨h.1,h.2.1,h.2.2.1.same λk k1 k2=>e k k1 (by have:=h.2.2.2.len;omega),h.2.2.2.same λk k1 k2=>e k ‹1› k2⟩
theorem jS {p:Array (Nat × Nat × Nat)}{i:Nat}{x y z:Nat × Nat × Nat}{l r:List (Nat × Nat × Nat)} (e:p.toList=l++x::y::r) (hl:l.length=i) :
  ((p.setIfInBounds i z).eraseIdxIfInBounds (i+1)).toList=l++z::r:=by
 have hs:(p.setIfInBounds i z).toList=l++z::y::r:=by
  rw [Array.toList_setIfInBounds,e,<- hl,List.set_append_right _ _ (Nat.le_refl _),Nat.sub_self]
  rfl
 have hz:i+1 < (p.setIfInBounds i z).size:=by
  rw [<- Array.length_toList,hs,List.length_append,hl]
  simp
 unfold Array.eraseIdxIfInBounds
 rw [dif_pos hz,Array.toList_eraseIdx,hs,<- hl,List.eraseIdx_append_of_length_le ‹1›,Nat.add_sub_cancel_left]
 rfl
section
variable {prog:Program}{w:World}{A:Around}{E:Value->Shared->Prop}{s:Shared} [RkOk prog w A s] {a₀:Array Keyed}
theorem pP {st:SortSt}{p:Array (Nat × Nat × Nat)}{i hi:Nat}{Q:Bool->SortSt->Prop} (h0:dX a₀) (g:SG a₀ p st) (r:cV (arrOf st) (p.toList.map pr) 0 hi) (hh:hi<=a₀.size) (hi2:i+1 < p.size)
  (h:∀v p',SG a₀ p' v->cV (arrOf v) (p'.toList.map pr) 0 hi->p'.size+1=p.size->(∀k,hi<=k->Kr (arrOf v) k=Kr (arrOf st) k)->Q true v) :
  wpS (model prog w) A E s (mergeAt' i) Q st:=by
 obtain⟨sa,na,w1,e1⟩:∃sa na w1,p[i]?=some (sa,na,w1):=⟨_,_,_,getElem?_pos p i ‹1›⟩
 obtain⟨sb,nb,w2,e2⟩:∃sb nb w2,p[i+1]?=some (sb,nb,w2):=⟨_,_,_,getElem?_pos p (i+1) hi2⟩
 have ep:p.toList=p.toList.take i++(sa,na,w1)::(sb,nb,w2)::p.toList.drop (i+2):=by
  conv=>lhs;rw [<- List.take_append_drop i p.toList]
  congr 1
  have l1:i < p.toList.length:=by rw [Array.length_toList];omega
  have l2:i+1 < p.toList.length:=by rw [Array.length_toList];omega
  rw [List.drop_eq_getElem_cons l1,List.drop_eq_getElem_cons l2]
  have g1:p.toList[i]=(sa,na,w1):=by
   have:=Array.getElem?_toList (xs:=p) (i:=i)
   rw [e1,List.getElem?_eq_getElem l1]at this
   exact Option.some.inj this
  have g2:p.toList[i+1]=(sb,nb,w2):=by
   have:=Array.getElem?_toList (xs:=p) (i:=i+1)
   rw [e2,List.getElem?_eq_getElem l2]at this
   exact Option.some.inj this
  rw [g1,g2]
 have ll:(p.toList.take i).length=i:=by rw [List.length_take,Array.length_toList];omega
 have r1:=r
 rw [ep,List.map_append,List.map_cons,List.map_cons]at r1
 obtain⟨m,ra,rb1,rb2,rb3,rc1,rc2,rc3,rd⟩:=cV.app.mp r1
 have rb1':sa=m:=rb1
 have rc1':sb=m+na:=rc1
 have rb2':1<=na:=rb2
 have rc2':1<=nb:=rc2
 subst rb1'
 have hd:=rd.len
 have hl:=ra.len
 have hd':sa+na+nb+(List.map pr (List.drop (i+2) p.toList)).length<=hi:=hd
 refine zW h0 g e1 e2 rc1' ‹1› ‹1› ‹1› (by rw [rc1'];exact rb3) (by rw [rc1'];exact rc3) λv gv rv kv=>?_
 refine h v _ gv ?_ ?_ λk hk=>kv k (.inr ‹1›)
 ·rw [jS ep ll,List.map_append,List.map_cons]
  refine cV.app.mpr ⟨sa,ra.same λk _ k2=>kv k (.inl k2),rfl,(show 1<=na+nb by omega),?_,?_⟩
  ·show Ris (arrOf v) sa (sa+(na+nb))
   rw [<- Nat.add_assoc,<- rc1']
   exact rv
  ·show cV (arrOf v) _ (sa+(na+nb)) hi
   rw [<- Nat.add_assoc]
   exact rd.same λk k1 k2=>kv k (.inr (by rw [rc1'];exact k1))
 ·have e3:=congrArg List.length (jS (z:=(sa,na+nb,w1)) ep ll)
  have e4:=congrArg List.length ep
  rw [Array.length_toList,List.length_append,ll]at e3 e4
  rw [List.length_cons]at e3
  rw [List.length_cons,List.length_cons]at e4
  omega
theorem ph (p:Array (Nat × Nat × Nat)) (i x:Nat):(p.modify i λq=>(q.1,q.2.1,x)).toList.map pr=p.toList.map pr:=by
 apply List.ext_getElem?
 intro k
 rw [List.getElem?_map,List.getElem?_map,Array.getElem?_toList,Array.getElem?_toList,Array.getElem?_modify]
 split
 ·cases p[k]? <;> rfl
 ·rfl
theorem sQ {st:SortSt}{Q:Unit->SortSt->Prop} (h0:dX a₀) (g:SG a₀ #[] st) (h2:2<=a₀.size)
  (h:∀v,(arrOf v).Perm a₀->failedOf v=none->AS (arrOf v) a₀.size->Q () v):wpS (model prog w) A E s sortRuns' Q st:=by
 rw [sortRuns'_eq]
 dsimp only
 refine wpS_bind (wpS_get ?_)
 rw [g.sz]
 generalize minRun' a₀.size a₀.size 0=mr
 refine wpS_bind (wpS_mono (wpS_forRange (I:=λx c v=>∃lo p,c=(none,lo)/\SG a₀ p v/\cV (arrOf v) (p.toList.map pr) 0 lo/\lo<=a₀.size/\x<=lo)
  (Q:=λc v=>∃p,c=(none,a₀.size)/\SG a₀ p v/\cV (arrOf v) (p.toList.map pr) 0 a₀.size) ?step ?fin ⟨0,#[],rfl,g,rfl,by omega,by omega⟩) ?post)
 case fin=>
  rintro c v ⟨lo,p,rfl,gv,r,l1,l2⟩
  have e:lo=a₀.size:=by omega
  subst e
  exact⟨p,rfl,gv,r⟩
 case post=>
  rintro c v ⟨p,rfl,gv,r⟩
  dsimp only
  refine wpS_bind (wpS_mono (wpS_forRange (I:=λx c u=>c=(none,())/\∃p,SG a₀ p u/\cV (arrOf u) (p.toList.map pr) 0 a₀.size/\(p.size<=1\/p.size+x<=a₀.size))
   (Q:=λc u=>c=(none,())/\∃p,SG a₀ p u/\cV (arrOf u) (p.toList.map pr) 0 a₀.size/\p.size<=1) ?_ ?_ ⟨rfl,p,gv,r,.inr ?_⟩) ?_)
  ·rintro x c u _ xn ⟨rfl,p,gu,r,z⟩
   refine wpS_bind (wpS_get ?_)
   have ep:pendingOf u=p:=gu.pd
   rw [ep]
   by_cases c1:p.size<=1
   ·rw [if_pos c1]
    exact wpS_pure ⟨rfl,p,gu,r,c1⟩
   rw [if_neg c1]
   have bnd:∀b:Bool,(if b=true then p.size - 2 - 1 else p.size - 2)+1 < p.size:=λb=>by cases b <;> simp <;> omega
   refine wpS_bind (pP h0 gu r (Nat.le_refl _) (bnd _) λu2 p2 g2 r2 z2 _=>?_)
   exact wpS_pure ⟨rfl,p2,g2,r2,.inr ‹1›⟩
  ·rintro c u ⟨rfl,p,gu,r,z⟩
   exact⟨rfl,p,gu,r,by omega⟩
  ·have:=r.len
   rw [List.length_map,Array.length_toList]at this
   omega
  ·rintro c u ⟨rfl,p,gu,r,z⟩
   refine wpS_pure (h u gu.pm gu.fl λi j hij hj=>?_)
   have hz:p.toList.length<=1:=by rw [Array.length_toList];exact z
   generalize p.toList=l at r hz
   cases l with
   | nil=>
    have:0=a₀.size:=r
    omega
   | cons q t=>
    cases t with
    | nil=>
     obtain⟨r1,r2,r3,r4⟩:=r
     have r4':0+q.2.1=a₀.size:=r4
     exact r3 i j ‹1› hij ‹1›
    | cons q2 t=>simp at hz
 case step=>
  rintro x c v _ xn ⟨lo,p,rfl,gv,r,l1,l2⟩
  dsimp only
  by_cases c1:lo>=a₀.size
  ·rw [if_pos c1]
   have e:lo=a₀.size:=by omega
   subst e
   exact wpS_pure ⟨p,rfl,gv,r⟩
  rw [if_neg c1]
  have push:∀N (u:SortSt) (q:Array (Nat × Nat × Nat)),SG a₀ q u->cV (arrOf u) (q.toList.map pr) 0 lo->Ris (arrOf u) lo (lo+N)->1<=N->lo+N<=a₀.size->
    ∃lo' q',(none,lo+N)=((none,lo'):Option Unit × Nat)/\SG a₀ q' (setPending u ((pendingOf u).push (lo,N,0)))/\cV (arrOf (setPending u ((pendingOf u).push (lo,N,0)))) (q'.toList.map pr) 0 lo'/\lo'<=a₀.size/\x+1<=lo':=by
   intro N u q gq rq rn n1 n2
   refine⟨lo+N,q.push (lo,N,0),rfl,⟨gq.pm,gq.kd,gq.fl,?_⟩,?_,n2,by omega⟩
   ·show (pendingOf u).push _=_
    rw [gq.pd]
   ·rw [Array.toList_push,List.map_append]
    exact cV.app.mpr ⟨lo,rq,rfl,n1,rn,rfl⟩
  refine wpS_bind (qT h0 ‹1› ‹1› gv λm u gu lu m1 m2 rm=>?_)
  dsimp only
  have ru:cV (arrOf u) (p.toList.map pr) 0 lo:=r.same λk _ k2=>lu k k2
  by_cases hm:m < mr
  case' pos=>
   rw [if_pos hm]
   refine wpS_bind (wpS_lift (wpAny_rule ⟨rfl,?_⟩))
   refine wpS_bind (vX h0 (n:=min (a₀.size - lo) mr) ‹1› ‹1› gu rm λu2 g2 lu2 rn=>?_)
   rw [if_neg (by decide)]
   have rq:cV (arrOf u2) (p.toList.map pr) 0 lo:=ru.same λk _ k2=>lu2 k k2
   have n1:1<=min (a₀.size - lo) mr:=by omega
   have n2:lo+min (a₀.size - lo) mr<=a₀.size:=by omega
   generalize min (a₀.size - lo) mr=N at *
  case' neg=>
   rw [if_neg hm]
   have g2:=gu
   have rn:=rm
   have rq:=ru
   have n1:=m1
   have n2:lo+m<=a₀.size:=by omega
   clear gu lu m2 rm ru hm m1
   generalize m=N at *
   generalize u=u2 at *
  all_goals
   refine wpS_bind (wpS_get ?_)
   have ep:pendingOf u2=p:=g2.pd
   cases hb:(pendingOf u2).back? with
   | none=>
    dsimp only
    exact wpS_bind (wpS_modify (wpS_pure (push N u2 p g2 rq rn n1 n2)))
   | some q=>
    obtain⟨s1,k1,w1⟩:=q
    dsimp only
    generalize power' a₀.size (2 * s1+k1) (2 * s1+k1+k1+N) a₀.size=pw
    refine wpS_bind (wpS_mono (wpS_forRange (I:=λ_ c u=>c=(none,())/\∃q,SG a₀ q u/\cV (arrOf u) (q.toList.map pr) 0 lo/\Ris (arrOf u) lo (lo+N))
     (Q:=λc u=>c=(none,())/\∃q,SG a₀ q u/\cV (arrOf u) (q.toList.map pr) 0 lo/\Ris (arrOf u) lo (lo+N)) ?_ (λ_ _ e=>e) ⟨rfl,p,g2,rq,rn⟩) ?_)
    ·rintro y c u3 _ _ ⟨rfl,q,g3,r3,rn3⟩
     refine wpS_bind (wpS_get ?_)
     have e3:pendingOf u3=q:=g3.pd
     rw [e3]
     by_cases cz:q.size > 1
     ·rw [if_pos cz,getElem?_pos q (q.size - 2) ‹1›]
      dsimp only
      split
      ·exact wpS_pure ⟨rfl,q,g3,r3,rn3⟩
      ·refine wpS_bind (pP h0 g3 r3 l1 ‹1› λu4 q4 g4 r4 z4 k4=>?_)
       exact wpS_pure ⟨rfl,q4,g4,r4,rn3.same λk a1 _=>k4 k a1⟩
     ·rw [if_neg cz]
      exact wpS_pure ⟨rfl,q,g3,r3,rn3⟩
    ·rintro c u3 ⟨rfl,q,g3,r3,rn3⟩
     dsimp only
     refine wpS_bind (wpS_modify (wpS_bind (wpS_modify (wpS_pure (push N _ _ ⟨g3.pm,g3.kd,g3.fl,rfl⟩ ?_ rn3 n1 n2)))))
     rw [ph,show pendingOf u3=q from g3.pd]
     exact r3
end
noncomputable def most:Nat:=1000
theorem cJ {n:Nat} (h:n<=most):n<=sizeLine:=by
 rw [sizeLine_eq];unfold most at h;omega
section
variable {prog:Program}{w:World}{A:Around}{E:Value->Shared->Prop}{s:Shared}{hb:Heap}{fa:Addr}{mp:Str->Option Value}{bk:List (Addr × Obj)}{a st:Addr}{xs:List Value}{ks:List Int}{ka:Array Value}{c1 c2:Nat}
noncomputable def AG (prog:Program) (w:World) (A:Around) (s:Shared):RkOk prog w A s where
 rk:=numOf
 kd:=oneType'
 ok:=λv=>∃n t,v=.int n t
 lt:=by
  rintro _ _ E R ⟨n,t,rfl⟩ ⟨m,u,rfl⟩ h
  rw [keyLt'_oneType]
  exact oneLt_int h
theorem mR {P:PySem.Fin->Shared->Prop}{u:SortSt} (F:Fr hb fa s.heap mp) (N:News hb fa s.heap (bk++[(st,seqObj "list" ka c2),(a,seqObj "list" #[] c1)])) (ne:st≠a) (n1:∀p∈bk,p.1≠st) (n2:∀p∈bk,p.1≠a)
  (kz:ka.size=xs.length) (hk:IntsAre ka.toList ks) (hz:xs.length<=most) (pm:(arrOf u).Perm (ka.zip xs.toArray)) (so:SortedTo (arrOf u) (arrOf u).size) (fl:failedOf u=none)
  (h:∀h' tk out c,Fr hb fa h' mp->News hb fa h' ((a,seqObj "list" out c)::bk)->KskOut false ks xs out.toList->P (.done (.ret .none)) { s with heap:=h',toks:=tk }) :
  wpAny (model prog w) A (ksk_tail a false c1 (.ref st) u) P E s:=by
 have i1:=N (st,seqObj "list" ka c2) (by simp)
 have i2:=N (a,seqObj "list" #[] c1) (by simp)
 have zo:((arrOf u).map (·.2)).size=xs.length:=by
  rw [Array.size_map,pm.size_eq,Array.size_zip,kz,List.size_toArray,Nat.min_self]
 have b1:=Heap.SameBut.update s.heap st (Obj.mapSeq λ_=>(#[]:Array Value))
 have i3:=(b1.2 a ne.symm).trans i2.1
 have b2:=Heap.SameBut.update (s.heap.update st (Obj.mapSeq λ_=>(#[]:Array Value))) a (Obj.mapSeq λ_=>(arrOf u).map (·.2))
 obtain⟨c3,i4⟩:∃c3,((s.heap.update st (Obj.mapSeq λ_=>(#[]:Array Value))).update a (Obj.mapSeq λ_=>(arrOf u).map (·.2))).get? a=some (seqObj "list" ((arrOf u).map (·.2)) c3):=⟨_,get?_update_seq i3 λ_=>(arrOf u).map (·.2)⟩
 unfold ksk_tail
 dsimp only
 refine zB0 (listUpdate_at i1.1 rfl ?_ (by rw [kz];exact cJ hz) (Nat.zero_le _))
 refine zB0 (wpAny_letGo ?_)
 refine zB0 (seqEpoch_at i3 rfl ?_)
 refine zB0 (listUpdate_at i3 rfl ?_ (Nat.zero_le _) (by simp only [Bool.false_eq_true,if_false];rw [zo];exact Nat.le_succ_of_le (cJ hz)))
 rw [fl]
 simp only [bne_self_eq_false,Bool.false_eq_true,if_false]
 have ko:=ksk_out (b:=false) hk pm so
 simp only [Bool.false_eq_true,if_false]at ko
 refine zP0 (h _ _ _ c3 (ksk_fr (ksk_fr F b1 i1.2.1 i1.2.2) b2 i2.2.1 i2.2.2) (λp hp=>?_) ko)
 rcases List.mem_cons.mp hp with e | hp
 ·rw [e];exact⟨i4,i2.2⟩
 ·exact ksk_news (ksk_news (λq hq=>N q (List.mem_append_left _ hq)) b1 n1) b2 n2 p hp
theorem wl {P:PySem.Fin->Shared->Prop} (F:Fr hb fa s.heap mp) (N:News hb fa s.heap (bk++[(st,seqObj "list" ka c2),(a,seqObj "list" #[] c1)])) (ne:st≠a) (n1:∀p∈bk,p.1≠st) (n2:∀p∈bk,p.1≠a)
  (hk:IntsAre ka.toList ks) (hl:ks.length=xs.length) (hz:xs.length<=most)
  (h:∀h' tk out c,Fr hb fa h' mp->News hb fa h' ((a,seqObj "list" out c)::bk)->KskOut false ks xs out.toList->P (.done (.ret .none)) { s with heap:=h',toks:=tk }) :
  wpAny (model prog w) A (ksk_end a false xs.toArray c1 (.ref st) ka) P E s:=by
 have kz:ka.size=xs.length:=by
  have:=hk.length
  rw [Array.length_toList]at this
  omega
 have zz:(ka.zip xs.toArray).size=xs.length:=by rw [Array.size_zip,kz,List.size_toArray,Nat.min_self]
 unfold ksk_end
 dsimp only
 simp only [Bool.false_eq_true,if_false]
 by_cases few:xs.toArray.size < 2
 ·rw [if_pos few,if_pos few]
  refine zB0 (zP0 ?_)
  rw [StateT.run_pure]
  refine zB0 (zP0 ?_)
  refine mR (u:=SortSt.mk' general' (ka.zip xs.toArray) #[] 7 none) F N ne n1 n2 kz hk hz (Array.Perm.refl _) (λi j ij jz=>?_) rfl h
  have jz':j < (ka.zip xs.toArray).size:=jz
  rw [List.size_toArray]at few
  rw [show i=j by omega]
  exact Int.le_refl _
 ·rw [if_neg few,if_neg few]
  rw [List.size_toArray]at few
  rw [ksk_kind hk ‹1›]
  refine zB0 (zP0 ?_)
  letI:=AG prog w A s
  have srt:=sQ (prog:=prog) (w:=w) (A:=A) (E:=E) (s:=s) (a₀:=ka.zip xs.toArray) (st:=SortSt.mk' oneType' (ka.zip xs.toArray) #[] 7 none)
   (Q:=λ_ v=>(arrOf v).Perm (ka.zip xs.toArray)/\failedOf v=none/\SortedTo (arrOf v) (ka.zip xs.toArray).size) (ksk_intKeys hk) ⟨Array.Perm.refl _,rfl,rfl,rfl⟩ ‹1› λv a1 a2 a3=>⟨a1,a2,a3⟩
  refine zB0 (wpAny_mono srt ?_ λ_ _ e=>e)
  rintro⟨⟨⟩,v⟩ s' ⟨rfl,pm,fl,so⟩
  exact mR F N ne n1 n2 kz hk hz pm (by rw [pm.size_eq];exact so) fl h
theorem tm {P:PySem.Fin->Shared->Prop}{f:Value} (F:Fr hb fa s.heap mp) (N:News hb fa s.heap (bk++[(st,seqObj "list" #[] 0),(a,seqObj "list" #[] c1)])) (ne:st≠a) (n1:∀p∈bk,p.1≠st) (n2:∀p∈bk,p.1≠a)
  (hl:ks.length=xs.length) (hz:xs.length<=most)
  (ask:∀(i:Nat) (x:Value) (k:Int),xs[i]?=some x->ks[i]?=some k->∀(g:Heap) (tk:Nat) (own:List (Addr × Obj)),Fr hb fa g mp->News hb fa g (bk++own)->
   wpAny (model prog w) A (call f [x]) (KskEnd hb fa mp (bk++own) k { s with heap:=g,toks:=tk }) (λ_ _=>False) { s with heap:=g,toks:=tk })
  (h:∀h' tk out c,Fr hb fa h' mp->News hb fa h' ((a,seqObj "list" out c)::bk)->KskOut false ks xs out.toList->P (.done (.ret .none)) { s with heap:=h',toks:=tk }) :
  wpAny (model prog w) A (ksk_rest a f false xs.toArray c1 (.ref st)) P E s:=by
 unfold ksk_rest
 refine zB0 (wpAny_rule ?_)
 rw [List.forIn_toArray]
 refine zB0 (ksk_fold (λi s'=>∃g tk kA c,s'={ s with heap:=g,toks:=tk }/\Fr hb fa g mp/\News hb fa g (bk++[(st,seqObj "list" kA c),(a,seqObj "list" #[] c1)])/\IntsAre kA.toList (ks.take i)) xs 0 s
  ⟨s.heap,s.toks,#[],0,rfl,F,N,by simpa using IntsAre.nil⟩ ?one ?all)
 case one=>
  rintro j x s' hx ⟨g,tk,kA,c,rfl,F1,N1,hk⟩
  rw [Nat.zero_add]at hk
  have lj:j < xs.length:=(List.getElem?_eq_some_iff.mp hx).1
  have hkj:=List.getElem?_eq_getElem (l:=ks) (i:=j) ‹1›
  have zk:kA.size < most:=by
   have:=hk.length
   rw [Array.length_toList,List.length_take]at this
   omega
  refine zB0 (wpAny_attempt (wpAny_mono (ask j x _ hx hkj g tk _ F1 N1) (λv s'' q=>?_) λ_ _ q=>q.elim))
  obtain⟨g2,tk2,t2,rfl,rfl,F2,N2⟩:=q
  dsimp only
  have i1:=N2 (st,seqObj "list" kA c) (by simp)
  have i2:=N2 (a,seqObj "list" #[] c1) (by simp)
  have b1:=Heap.SameBut.update g2 st (Obj.mapSeq (·.push (.int ks[j] t2)))
  obtain⟨c3,i3⟩:∃c3,(g2.update st (Obj.mapSeq (·.push (.int ks[j] t2)))).get? st=some (seqObj "list" (kA.push (.int ks[j] t2)) c3):=⟨_,get?_update_seq i1.1 (·.push (.int ks[j] t2))⟩
  refine zB0 (listUpdate_at i1.1 rfl ?_ (cJ ‹1›) (by rw [Array.size_push];exact Nat.succ_le_succ (cJ (Nat.le_of_lt zk))))
  refine zP0 ⟨rfl,_,_,kA.push (.int ks[j] t2),c3,rfl,ksk_fr F2 b1 i1.2.1 i1.2.2,λp hp=>?_,?_⟩
  ·rcases List.mem_append.mp hp with hp | hp
   ·exact ksk_news (λq hq=>N2 q (List.mem_append_left _ hq)) b1 n1 p hp
   ·rcases List.mem_cons.mp hp with e | hp
    ·rw [e];exact⟨i3,i1.2⟩
    ·rw [List.mem_singleton.mp hp]
     exact⟨(b1.2 a ne.symm).trans i2.1,i2.2⟩
  ·rw [Nat.zero_add,List.take_add_one,hkj,Array.toList_push]
   exact ksk_snoc hk
 case all=>
  rintro s' ⟨g,tk,kA,c,rfl,F1,N1,hk⟩
  rw [Nat.zero_add,List.take_of_length_le ‹1›]at hk
  try dsimp only
  refine zB0 (listItems_at (N1 (st,seqObj "list" kA c) (by simp)).1 rfl ?_)
  exact wl F1 N1 ne n1 n2 hk hl hz λh3 tk3 out c F3 N3 k3=>h h3 tk3 out c F3 N3 k3
theorem t9 {P:PySem.Fin->Shared->Prop}{f:Value}{c:Nat} (F:Fr hb fa s.heap mp) (N:News hb fa s.heap bk) (ho:s.heap.get? a=some (seqObj "list" xs.toArray c)) (aL:a≠fa) (a0:hb.get? a=none) (n2:∀p∈bk,p.1≠a)
  (hl:ks.length=xs.length) (hz:xs.length<=most)
  (ask:∀(i:Nat) (x:Value) (k:Int),xs[i]?=some x->ks[i]?=some k->∀(g:Heap) (tk:Nat) (own:List (Addr × Obj)),Fr hb fa g mp->News hb fa g (bk++own)->
   wpAny (model prog w) A (call f [x]) (KskEnd hb fa mp (bk++own) k { s with heap:=g,toks:=tk }) (λ_ _=>False) { s with heap:=g,toks:=tk })
  (h:∀h' tk out c,Fr hb fa h' mp->News hb fa h' ((a,seqObj "list" out c)::bk)->KskOut false ks xs out.toList->P (.done (.ret .none)) { s with heap:=h',toks:=tk }) :
  wpAny (model prog w) A (ksk_tree a f false) P E s:=by
 have la:a < s.heap.objs.size:=Heap.lt_size ho
 have b1:=Heap.SameBut.update s.heap a (Obj.mapSeq λ_=>(#[]:Array Value))
 obtain⟨c3,ho1⟩:∃c3,(s.heap.update a (Obj.mapSeq λ_=>(#[]:Array Value))).get? a=some (seqObj "list" #[] c3):=⟨_,get?_update_seq ho λ_=>#[]⟩
 have F1:=ksk_fr F b1 aL a0
 have N1:=ksk_news N b1 n2
 unfold ksk_tree
 refine zB0 (listItems_at ho rfl ?_)
 refine zB0 (listUpdate_at ho rfl ?_ (by rw [List.size_toArray];exact cJ hz) (Nat.zero_le _))
 refine zB0 (seqEpoch_at ho1 rfl ?_)
 refine zB0 (wpAny_newTuple ?_ (by rw [List.toList_toArray];exact cJ hz))
 refine zB0 (wpAny_newList ?_ (Nat.zero_le _))
 refine wpAny_holding ?_
 have zt:((s.heap.update a (Obj.mapSeq λ_=>(#[]:Array Value))).push (seqObj "tuple" xs.toArray 0)).objs.size=s.heap.objs.size+1:=by rw [size_push',Heap.size_update]
 have lf:=(F1.push (seqObj "tuple" xs.toArray 0)).ns.lt
 refine tm (s:={ s with heap:=((s.heap.update a (Obj.mapSeq λ_=>(#[]:Array Value))).push (seqObj "tuple" xs.toArray 0)).push (seqObj "list" #[] 0) })
  ((F1.push _).push _) (λp hp=>?_) (by rw [zt];exact Nat.ne_of_gt (Nat.lt_succ_of_lt la)) (λp hp=>by rw [zt];exact Nat.ne_of_lt (Nat.lt_succ_of_lt (Heap.lt_size (N p hp).1))) n2 hl hz ask h
 rcases List.mem_append.mp hp with hp | hp
 ·exact⟨zH0 _ (zH0 _ (N1 p hp).1),(N1 p hp).2⟩
 ·rcases List.mem_cons.mp hp with e | hp
  ·rw [e];exact⟨Heap.get?_push_size _ rfl,Nat.ne_of_gt lf,Heap.get?_none_of_le (Nat.le_trans F.above (Nat.le_of_lt lf))⟩
  ·rw [List.mem_singleton.mp hp]
   exact⟨zH0 _ (zH0 _ ho1),aL,a0⟩
theorem oz {l:Addr}{Q:Value->Shared->Prop}{f:Addr} (F:Fr hb fa s.heap mp) (N:News hb fa s.heap bk) (il:s.heap.IsList l xs.toArray) (hl:ks.length=xs.length) (hz:xs.length<=most)
  (ask:∀(i:Nat) (x:Value) (k:Int),xs[i]?=some x->ks[i]?=some k->∀(g:Heap) (tk:Nat) (own:List (Addr × Obj)),Fr hb fa g mp->News hb fa g (bk++own)->
   wpAny (model prog w) A.in1.in1 (call (.ref f) [x]) (KskEnd hb fa mp (bk++own) k { s with heap:=g,toks:=tk }) (λ_ _=>False) { s with heap:=g,toks:=tk })
  (h:∀D h' tk out c,Fr hb fa h' mp->News hb fa h' ((D,seqObj "list" out c)::bk)->(∀q∈bk,q.1 < D)->KskOut false ks xs out.toList->Q (.ref D) { s with heap:=h',toks:=tk }) :
  wpAny (model prog w) A (call (.builtin "sorted") [.ref l] [(PySem.Str.ofString "key", .ref f)]) Q E s:=by
 refine call_function_entry_kw kind_sorted plain_sorted entry_sorted (ksk_s1 _ _) ?_
 unfold Builtin.«sorted»
 refine zB0 (m:=checkCount "sorted" 1 1 _) (zP0 ?_)
 refine zB0 (collect_list il ?_ (cJ hz))
 refine zB0 (wpAny_newList ?_ (cJ hz))
 have z1:((s.heap.push (seqObj "list" #[] 0)).update s.heap.objs.size (Obj.mapSeq (·++xs.toArray))).objs.size=s.heap.objs.size+1:=by
  rw [Heap.size_update,size_push']
 generalize eg:((s.heap.push (seqObj "list" #[] 0)).update s.heap.objs.size (Obj.mapSeq (·++xs.toArray)))=g at z1
 have kp:∀b o,s.heap.get? b=some o->(g.push (seqObj "list" xs.toArray 0)).get? b=some o:=λb o q=>by
  have lt:=Heap.lt_size q
  rw [Heap.get?_push_ne _ _ _ (by rw [z1];exact Nat.ne_of_lt (Nat.lt_succ_of_lt lt)),<- eg,Heap.get?_update_ne _ _ _ _ (Nat.ne_of_lt lt),Heap.get?_push_ne _ _ _ (Nat.ne_of_lt lt)]
  exact q
 have hn:(g.push (seqObj "list" xs.toArray 0)).get? (s.heap.objs.size+1)=some (seqObj "list" xs.toArray 0):=by
  rw [<- z1];exact Heap.get?_push_size _ rfl
 have lf:=F.ns.lt
 show wpAny _ _ _ _ _ { s with heap:=g.push (seqObj "list" xs.toArray 0) }
 rw [z1]
 refine zB0 (wpAny_holding (wpAny_call_entry_kw slot_list_sort ⟨_,hn,rfl⟩ entry_list_sort ?body (ksk_l1 _ _)))
 case body=>
  have e1:=ksk_t1 f (s.heap.objs.size+1)
  show wpAny (model prog w) A.in1.in1 (Builtin.«list.sort» ⟨[.ref (s.heap.objs.size+1)],[(PySem.Str.ofString "key", .ref f)]⟩) _ _ _
  rw [e1]
  refine t9 (s:={ s with heap:=g.push (seqObj "list" xs.toArray 0) }) (F.kept kp) (N.grown kp) hn (Nat.ne_of_gt (Nat.lt_succ_of_lt lf)) (Heap.get?_none_of_le (Nat.le_trans F.above (Nat.le_succ_of_le (Nat.le_of_lt lf))))
   (λp hp=>Nat.ne_of_lt (Nat.lt_succ_of_lt (Heap.lt_size (N p hp).1))) hl hz ask λh' tk out c F' N' k'=>⟨_,rfl,?_⟩
  exact zP0 ⟨_,rfl,h _ h' tk out c F' N' (λq hq=>Nat.lt_succ_of_lt (Heap.lt_size (N q hq).1)) k'⟩
end
section
variable {X:Cx}{pins:List (Addr × Obj)}{σ:St}{H:Hp}{s:Shared}
theorem pe {h:Heap}{L:Addr}:News (Att.noObjs h) L h (Att.ledger h L L):=by
 rintro⟨a,o⟩ hp
 obtain⟨n1,_,e⟩:=Att.mem_ledger.mp hp
 exact⟨e,n1,Att.noObjs_get _ _⟩
theorem Inv.newList {h':Heap}{t':Nat}{D:Addr}{m:Str->Option Value}{xs:List V}{its:List Value}{n:Nat} (I:Inv X pins σ H s) (hm:s.heap.Ns X.env.locals m) (hn:h'.Ns X.env.locals m)
  (k:∀b o,b≠X.env.locals->s.heap.get? b=some o->h'.get? b=some o) (fr:s.heap.get? D=none) (hD:h'.get? D=some { cls:=.type "list", data:=.seq its.toArray n })
  (r:aJ xs its) (hz:xs.length<=sizeLine):H D=none/\Inv X pins σ (upd H D (.lst xs)) { s with heap:=h',toks:=t' }:=by
 have nD:H D=none:=by
  cases q:H D with
  | none=>rfl
  | some u=>
   exfalso
   have:∃o,s.heap.get? D=some o:=by
    have l:=(I.hok D u q).lt
    have z:=I.hok D u q
    cases u with
    | lst ys=>obtain⟨_,_,_,_,e⟩:=z;exact⟨_,e⟩
    | tup ys=>obtain⟨_,_,_,o,e,_⟩:=z;exact⟨_,e⟩
    | dK kvs=>obtain⟨_,_,_,_,o,_,_,e,_⟩:=z;exact⟨_,e⟩
    | dT kvs=>obtain⟨_,_,_,_,o,_,_,e,_⟩:=z;exact⟨_,e⟩
    | set S n=>obtain⟨o,_,_,_,e,_⟩:=z;exact⟨_,e⟩
    | ins C dx fs=>obtain⟨_,_,_,e,_⟩:=z;exact⟨_,e⟩
    | own y=>exact z
    | xd fs=>obtain⟨_,⟨o,_,_,e,_⟩,_⟩:=z;exact⟨_,e⟩
    | rng lo hi=>obtain⟨_,_,_,e⟩:=z;exact⟨_,e⟩
    | frz ob u=>obtain⟨e,_⟩:=z;exact⟨_,e⟩
    | tbl ps=>exact⟨_,z⟩
    | met f y=>exact⟨_,z⟩
    | ext φ=>exact z.2.1
   obtain⟨o,e⟩:=this
   rw [fr]at e;cases e
 have ne:∀b u,H b=some u->b≠D:=λb u q=>af q nD
 have nL:∀b u,H b=some u->b≠X.env.locals:=λb u q=>af q I.free
 refine⟨nD,I.step (g':=s.gens) (d':=s.drawn) (ch:=[]) (λb z=>absurd z (by simp)) (λb o hL _ _ e _=>k b o hL e) (λb o hL _ _ e _=>⟨o.slots,k b o hL e⟩) (λb o _ e n=>?_) (λb o _ e=>?_)
  (λb ys q=>?_) (λb o u q=>?_) (λb ps q=>?_) (λm' hm'=>?_) (λb u q=>?_) I.bare⟩
 ·rw [ag (λz=>by rw [z,fr]at e;cases e)];exact n
 ·by_cases z:b=X.env.locals
  ·obtain⟨o',_,_,e',_⟩:=hn
   exact⟨o',by rw [z];exact e'⟩
  ·exact⟨o,k b o z e⟩
 ·rw [ag (ne b _ q)];exact q
 ·rw [ag (ne b _ q)];exact q
 ·exact⟨#[],by rw [ag (ne b _ q),q];simp⟩
 ·have e1:=hm.eq_nsMap
  have e2:=hm'.eq_nsMap
  rw [e2,<- e1];exact hn
 ·by_cases z:b=D
  ·subst z;rw [ae]at q;cases q
   exact⟨hz,its,n,r,hD⟩
  ·rw [ag z]at q
   refine(I.hok b u q).stay (λc v hc r=>k c v ?_ r) (λc r=>by rw [ag (ne c _ r)];exact r) λc ys r=>by rw [ag (ne c _ r)];exact r
   rcases hc with hc | hc
   ·rw [hc];exact nL b u q
   ·exact nL c _ hc
end
theorem kC {ps:List Addr}{its:List Value} (r:aJ (ps.map V.ref) its):its=ps.map Value.ref:=by
 induction ps generalizing its with
 | nil=>cases r;rfl
 | cons p ps ih=>
  cases r with
  | cons h t=>rw [List.map_cons,<- ih t];cases h;rfl
theorem kO:∀ps:List Addr,aJ (ps.map V.ref) (ps.map Value.ref)
 | []=>.nil
 | _::ps=>.cons rfl (kO ps)
noncomputable def fh:Value->Addr
 | .ref a=>a
 | _=>0
theorem c9 {α β:Type}{F:α->β->Prop}:∀{l₁:List α}{l₂:List β},Paired F l₁ l₂->∀{i:Nat}{a:α},l₁[i]?=some a->∃b,l₂[i]?=some b/\F a b
 | _,_,.nil,_,_,e=>by simp at e
 | _,_,.cons r _,0,_,e=>by simp at e;subst e;exact⟨_,rfl,r⟩
 | _,_,.cons _ t,i+1,a,e=>by
  obtain⟨b,h1,h2⟩:=c9 t (i:=i) (a:=a) (by simpa using e)
  exact⟨b,by simpa using h1,h2⟩
noncomputable def A5 (pa p1 p2 p3:Pos) (j:Nat) (scope:Scope) (q:Str) (t tk:TA):TE:=λσ H Q=>t σ H λvs H1=>tk σ H1 λzs H2=>∃(l f c:Addr) (ps:List Addr) (ks:List Int),
 vs=[.ref l]/\zs=[.ref f]/\H2 l=some (.lst (ps.map V.ref))/\ps.length<=most/\Paired (λp k=>∃r,H2 p=some (.tup (.int k::r))/\r.length < 1000) ps ks/\
 H2 c=some (.ext (bK c q))/\
 H2 f=some (.ext (mI f { posonlyargs:=[],args:=[{ arg:="row", annotation:=none,pos:=pa }],vararg:=none,kwonlyargs:=[],kw_defaults:=[],kwarg:=none,defaults:=[] } (.Subscript (.Name "row" p1) (.Constant (.int 0) j p2) p3) scope q c))/\
 ∀(D:Addr) (zs:List (Int × Addr)),zs.Perm (ks.zip ps)->zs.Pairwise (λa b=>a.1<=b.1)->H2 D=none->Q (.ref D) (upd H2 D (.lst (zs.map λz=>V.ref z.2)))
section
variable {X:Cx}{e:Expr}{kws:List Keyword}{t tk:TA}{p pos:Pos}
theorem wP {k:Nat}{pa p1 p2 p3:Pos}{j:Nat}{scope:Scope}{q:Str} (hr:Room k X.A) (hg:Gl X "sorted") (hm:X.mg "sorted" = none) (ha:PA X [e] t) (hk:PK X kws tk)
  (hsc:scope.kind=.function) (hsn:scope.names=[(PySem.Str.ofString "row", .local)]) (hsg:scope.isGenerator=false) (hsco:scope.isCoroutine=false)
  (he:backTo pos (starEach [e] X.env)=(false,eval e X.env)::backTo pos (starEach [] X.env):=by rfl) (hplain:(backTo pos (starEach [e] X.env)).any (·.1)=false:=by rfl)
  (hall:(backToKw pos (keywordEach kws X.env)).all (·.1.isSome)=true:=by rfl) (hkw:(backToKw pos (keywordEach kws X.env)).any (·.1.isNone)=false:=by rfl)
  (hks:(backToKw pos (keywordEach kws X.env)).filterMap (·.1)=[PySem.Str.ofString "key"]:=by rfl):PE X (.Call (.Name "sorted" p) [e] kws pos) (A5 pa p1 p2 p3 j scope q t tk):=by
 intro pins s σ H Q I h
 refine wpAny_Call_Name_kw (iy I hg hm PyProof.Rows.Boot.«sorted» ?_)
 refine callWith_kw (thn (ha pos pins s σ H _ I h) λus s1 hh=>?_) he hplain hall hkw
 obtain⟨vs,H1,I1,r1,q1⟩:=hh
 refine thn (hk pos pins s1 σ H1 _ I1 q1) λws s2 hh=>?_
 obtain⟨zs,H2,I2,r2,l,f,c,ps,ks,rfl,rfl,hl,h64,pk,hc,hf,done⟩:=hh
 obtain⟨u,rfl,ru⟩:=gP r1
 obtain⟨u2,rfl,ru2⟩:=gP r2
 cases (show u=Value.ref l from ru)
 cases (show u2=Value.ref f from ru2)
 rw [hks]
 show wpAny _ _ (call (.builtin "sorted") [.ref l] [(PySem.Str.ofString "key", .ref f)]) _ _ _
 obtain⟨its,n,rv,ho,hz⟩:=I2.lst hl
 obtain rfl:=kC rv
 obtain⟨m,hn,_⟩:=id I2.loc
 have kl:ks.length=ps.length:=(Paired.length pk).symm
 have nL:∀b u,H2 b=some u->b≠X.env.locals:=λb u q=>af q I2.free
 refine oz (hb:=Att.noObjs s2.heap) (fa:=X.env.locals) (mp:=m) (bk:=Att.ledger s2.heap X.env.locals X.env.locals) (ks:=ks) (xs:=ps.map Value.ref) (f:=f) (Att.fr_all hn) pe ⟨_,ho,rfl,n,rfl⟩ (by rw [List.length_map,kl]) (by rw [List.length_map];exact h64)
  (λi v kz hv hkz h1 tk1 own F1 N1=>?_) (λD h3 tk3 out c3 F3 N3 lt ko=>?_)
 ·-- one call of the key
  rw [List.getElem?_map]at hv
  cases ep:ps[i]? with
  | none=>rw [ep]at hv;cases hv
  | some a=>
   rw [ep]at hv
   cases hv
   obtain⟨k',ek,r,ht,hr'⟩:=c9 pk ep
   rw [hkz]at ek
   cases ek
   have kept:∀b o,b≠X.env.locals->s2.heap.get? b=some o->h1.get? b=some o:=λb o n e=>(N1 (b,o) (List.mem_append_left _ (Att.mem_ledger.mpr ⟨n,n,e⟩))).1
   obtain⟨hz2,ts,rt,ot,et,ct,nt,dt⟩:=(show br X.prog X.w H2 s2.heap a (.tup (.int kz::r)) from I2.hok a _ ht)
   cases rt with
   | @cons _ u _ us hu0 htl=>
    obtain⟨tt,rfl⟩:=hu0
    obtain⟨pm,ctv,ef⟩:=(show br X.prog X.w H2 s2.heap f _ from I2.hok f _ hf).1
    have hcr:=(show br X.prog X.w H2 s2.heap c _ from I2.hok c _ hc).1
    obtain⟨oc,eoc⟩:=bK.obj hcr
    have hl1:us.length < 1000:=by have:=Paired.length htl;omega
    refine vg (s:={ s2 with heap:=h1,toks:=tk1 }) (scope:=scope) (show X.A.depth < recursionLimit from hr.depth) (kept _ _ (nL _ _ hf) ef) hsc hsn hsg hsco (bK.st hcr λo e=>kept _ _ (nL _ _ hc) e) ⟨ot,kept _ _ (nL _ _ ht) et,ct,nt,dt⟩ hl1
     (I2.ok.mod.nolimit.keeps λb o e=>kept b o (Nat.ne_of_lt (Nat.lt_of_lt_of_le (Heap.lt_size e) (Nat.le_trans I2.ok.bsz I2.ok.above))) (I2.bk b o e)) λh₁ tk' hk'=>?_
    exact⟨h₁,tk',tt,rfl,rfl,⟨F1.ns.keeps hk',λb o e=>hk' b o (F1.keep b o e),F1.above⟩,λp hp=>⟨hk' _ _ (N1 p hp).1,(N1 p hp).2⟩⟩
 ·-- the sorted list
  obtain⟨qs,hp,ho3,hs⟩:=ko
  have kept:∀b o,b≠X.env.locals->s2.heap.get? b=some o->h3.get? b=some o:=λb o n e=>(N3 (b,o) (List.mem_cons_of_mem _ (Att.mem_ledger.mpr ⟨n,n,e⟩))).1
  have nD:=N3 (D,seqObj "list" out c3) List.mem_cons_self
  have fr:s2.heap.get? D=none:=by
   cases e:s2.heap.get? D with
   | none=>rfl
   | some o=>exact absurd (lt (D,o) (Att.mem_ledger.mpr ⟨nD.2.1,nD.2.1,e⟩)) (Nat.lt_irrefl _)
  have eg:ks.zip (ps.map Value.ref)=(ks.zip ps).map λz=>(z.1,Value.ref z.2):=by
   rw [List.zip_map_right]
   rfl
  have all:∀z∈qs,(z.1,Value.ref (fh z.2))=z:=λz hz=>by
   have:=hp.mem_iff.mp hz
   rw [eg]at this
   obtain⟨y,_,rfl⟩:=List.mem_map.mp this
   rfl
  have hp2:(qs.map λz=>(z.1,fh z.2)).Perm (ks.zip ps):=by
   have:=hp.map λz:Int × Value=>(z.1,fh z.2)
   rw [eg,List.map_map]at this
   have e2:((λz:Int × Value=>(z.1,fh z.2)) ∘ λz:Int × Addr=>(z.1,Value.ref z.2))=id:=by funext z;rfl
   rw [e2,List.map_id]at this
   exact this
  have hs2:(qs.map λz=>(z.1,fh z.2)).Pairwise (λa b=>a.1<=b.1):=by
   rw [List.pairwise_map]
   exact hs.imp λq=>q
  have e3:out.toList=((qs.map λz=>(z.1,fh z.2)).map λz=>Value.ref z.2):=by
   rw [ho3,List.map_map]
   refine List.map_congr_left λz hz=>?_
   exact(congrArg Prod.snd (all z hz)).symm
  have eo:out=(((qs.map λz=>(z.1,fh z.2)).map λz=>z.2).map Value.ref).toArray:=by
   rw [List.map_map]
   have:out=out.toList.toArray:=by simp
   rw [this,e3]
   rfl
  have hD:h3.get? D=some { cls:=.type "list", data:=.seq (((qs.map λz=>(z.1,fh z.2)).map λz=>z.2).map Value.ref).toArray c3 }:=by rw [<- eo];exact nD.1
  have hl3:(qs.map λz=>(z.1,fh z.2)).length<=sizeLine:=by
   rw [hp2.length_eq,List.length_zip,kl,Nat.min_self]
   rw [List.length_map]at hz
   exact hz
  obtain⟨nH,I3⟩:=I2.newList (t':=tk3) hn F3.ns kept fr hD (kO _) (by rw [List.length_map,List.length_map];exact hl3)
  rw [List.map_map]at I3
  exact⟨.ref D,_,I3,rfl,done D _ hp2 hs2 nH⟩
end
noncomputable abbrev aY:=Int × Int × V
noncomputable def bF:V->Prop
 | .non=>True
 | .int _=>True
 | _=>False
noncomputable def cE (r:aY):List V:=[.int r.1,.int r.2.1,r.2.2]
def ci (H:Hp) (ps:List Addr) (rs:List aY):Prop:=Paired (λp r=>H p=some (.tup (cE r))/\bF r.2.2) ps rs
def bu (H:Hp) (a:Addr) (rs:List aY):Prop:=∃ps,H a=some (.lst (ps.map V.ref))/\ci H ps rs
noncomputable def eR:V->PySem.W.Dat
 | .int i=>.int i
 | _=>.none
theorem o6:∀{x y:V},bF x->bF y->eR x=eR y->x=y
 | .non,.non,_,_,_=>rfl
 | .int _,.int _,_,_,e=>by cases e;rfl
 | .non,.int _,_,_,e=>by cases e
 | .int _,.non,_,_,e=>by cases e
section
variable {X:Cx}{pins:List (Addr × Obj)}{σ:St}{H:Hp}{s:Shared}
end
section
variable {X:Cx}
end
section
variable {X:Cx}
end
def vR (P:Addr) (H:Hp):Prop:=H P=some (.tbl #[])/\∀b,b=P\/H b=none\/∃o xs,H b=some (.frz o (.lst xs))
theorem si {P:Program}{w:World}{K:W.Frag}{mg mb:Str->Option Value}{k:Nat}{fa a:Addr}{fd:FuncData}{x:Str}{sp:Sp}{s₁:Shared}{vs:List Value}{ns:List Int}{c T:Addr}
  (KX:K.In s₁.heap) (hns:s₁.heap.Ns mainGlobals mg) (hb:s₁.heap.Ns builtinsNs mb) (hbb:∀x:Str,x≠"__name__"->mb x=bootBuiltins x) (hlim:s₁.heap.NoLimit) (hg:s₁.gens = #[])
  (hC:PySem.W.CodeHd s₁.heap c T) (hT:s₁.heap.get? T=some (PySem.W.tabObj #[])) (hnt:PySem.W.noTabs K=true) (hB:s₁.heap.BuiltinsAt mg T)
  (ha:s₁.heap.get? a=some { cls:=.type "list", data:=.seq vs.toArray }) (hi:IntsAre vs ns) (hl:ns.length<=sizeLine) (hr:Room k callerA)
  (F:∀base:Heap,K.In base->base.Ns mainGlobals mg->PySem.W.CodeHd base c T->base.BuiltinsAt mg T->FnOk P w K mg base CX0 k fa fd [x] sp) (hbind:∀(s:Shared) (u:Value),BindsTo s fd ⟨[u],[]⟩ [(x,u)])
  (hsp:∀H:Hp,vR T H->SqL K H a (ns.map V.int)->sp [.ref a] H (λv _=>v=.bl true) λ_ _ _=>False) :
  codeAny (model P w) callerA (.call (.ref fa) ⟨[.ref a],[]⟩) (λr s'=>r=.ok (.ret (.bool true))/\OldK s₁.heap s'.heap/\s'.os=s₁.os/\AllBare s'.gens) s₁:=by
 have rv:=kD hi
 have lenV:=hi.length
 have aT:a≠T:=λz=>by rw [z,hT]at ha;cases ha
 have core:∀H:Hp,vR T H->SqL K H a (ns.map V.int)->HOk P w H s₁.heap->(∀b,H b≠none->b=a\/b=T)->(H a≠none->K.lookup a=none)->
   codeAny (model P w) callerA (.call (.ref fa) ⟨[.ref a],[]⟩) (λr s'=>r=.ok (.ret (.bool true))/\OldK s₁.heap s'.heap/\s'.os=s₁.os/\AllBare s'.gens) s₁:=by
  intro H hO hS hok hA hK
  have base_of:∀{b:Addr}{o:Obj},s₁.heap.get? b=some o->H b=none->(jP s₁.heap H).get? b=some o:=λe n=>vp e n
  have noA:∀{b:Addr}{o:Obj},s₁.heap.get? b=some o->o≠{ cls:=.type "list", data:=.seq vs.toArray }->o≠PySem.W.tabObj #[]->H b=none:=λ{b o} e d1 d2=>by
   cases q:H b with
   | none=>rfl
   | some u=>
    rcases hA b (by rw [q];simp) with z | z
    ·subst z
     rw [ha]at e;cases e
     exact absurd rfl d1
    ·subst z
     rw [hT]at e;cases e
     exact absurd rfl d2
  have nsK:∀{b:Addr}{m:Str->Option Value},s₁.heap.Ns b m->(jP s₁.heap H).Ns b m:=λ{b m} hh=>by
   obtain⟨o,es,ep,e,d,r⟩:=hh
   exact⟨o,es,ep,base_of e (noA e (λz=>by rw [z]at d;cases d) λz=>by rw [z]at d;cases d),d,r⟩
  have hKb:K.In (jP s₁.heap H):=λb o e=>base_of (KX b o e) (by
   cases q:H b with
   | none=>rfl
   | some u=>
    rcases hA b (by rw [q];simp) with z | z
    ·subst z
     rw [hK (by rw [q];simp)]at e;cases e
    ·subst z
     have h1:=KX b o e
     rw [hT]at h1;cases h1
     have h2:=List.all_eq_true.mp hnt (b,PySem.W.tabObj #[]) (PySem.W.mem_of_lookupK e)
     exact absurd (show false=true from h2) Bool.false_ne_true)
  have hM:Mod K mg (jP s₁.heap H):=⟨hKb,nsK hns,⟨mb,nsK hb,hbb⟩,let ⟨mc,h1,h2⟩:=hlim;⟨mc,nsK h1,h2⟩⟩
  have hCb:PySem.W.CodeHd (jP s₁.heap H) c T:=by
   obtain⟨o,vs',file,tf,flags,tg,inF,text,tt,e1,e2,r⟩:=hC
   exact⟨o,vs',file,tf,flags,tg,inF,text,tt,base_of e1 (noA e1 (λz=>by rw [z]at e2;injection e2 with e2;exact absurd e2 (by decide)) λz=>by rw [z]at e2;cases e2),e2,r⟩
  have hBb:(jP s₁.heap H).BuiltinsAt mg T:=by
   obtain⟨bm,ob,b1,b2,b3,b4,b5,b6,b7⟩:=hB
   exact⟨bm,ob,b1,b2,b3,b4,base_of b5 (noA b5 (λz=>by rw [z]at b6;injection b6 with b6;exact absurd b6 (by decide)) λz=>by rw [z]at b6;cases b6),b6,b7⟩
  have e0:Env0 P w K mg (jP s₁.heap H) callerA [] s₁ H:=⟨rfl,hM,λb o e=>xm e,Nat.le_of_eq (su _ _),trivial,λb hb=>absurd (show b∈([]:List Addr) from hb) (by simp),hok,.of_eq hg⟩
  refine codeAny_mono ((F _ hKb (nsK hns) hCb hBb).run callerA [] s₁ H ⟨[.ref a],[]⟩ [.ref a] [.ref a] _ _ hr e0 (hbind s₁ (.ref a)) (.cons rfl .nil) (hsp H hO hS)) λr s' h=>?_
  cases r with
  | error e=>exact False.elim h
  | ok fl=>
   cases fl with
   | next=>exact False.elim h
   | brk=>exact False.elim h
   | cont=>exact False.elim h
   | ret u=>
    obtain⟨v,H',os,bare,un,hok',r',q⟩:=h
    have q':v=.bl true:=q
    subst q'
    obtain rfl:u=Value.bool true:=r'
    obtain⟨more,hmore⟩:=un.tbls T #[] hO.1
    have hT':s'.heap.get? T=some { cls:=.none,data:=.fields (#[]++more) }:=hok' T _ hmore
    have kept:∀b o,b≠T->s₁.heap.get? b=some o->s'.heap.get? b=some o:=λb o nT e=>by
     rcases hO.2 b with z | z | ⟨ob,xs,z⟩
     ·exact absurd z nT
     ·exact un.keep b o e z (by intro z;exact absurd (show b∈([]:List Addr) from z) (by simp)) (by simp)
     ·have z2:=un.frzs b ob _ z
      obtain⟨e1,_⟩:=hok b _ z
      obtain⟨e2,_⟩:=hok' b _ z2
      rw [e]at e1;cases e1
      exact e2
    refine⟨rfl,⟨λb o e=>?_,λb o e=>?_⟩,os,bare⟩
    ·by_cases z:b=T
     ·subst z
      rw [hT]at e;cases e
      exact .inr (.inl ⟨(hC.tab hT).isCodeTable,rfl,#[],more,rfl,hT'⟩)
     ·exact .inl (kept b o z e)
    ·by_cases z:b=T
     ·subst z;exact⟨_,hT'⟩
     ·exact⟨o,kept b o z e⟩
 cases hk:K.lookup a with
 | some o=>
  have e:=KX a o hk
  rw [ha]at e
  cases e
  refine core (λb=>if b=T then some (.tbl #[]) else none) ⟨if_pos rfl,λb=>?_⟩ (.inr ⟨_,vs.toArray,_,hk,rfl,rfl,rfl,by rw [List.size_toArray,lenV];exact hl,by simpa using rv⟩) (λb u z=>?_) (λb z=>?_) λz=>absurd (if_neg aT) z
  ·by_cases hb:b=T
   ·exact .inl hb
   ·exact .inr (.inl (if_neg hb))
  ·by_cases hb:b=T
   ·have z':=(if_pos hb).symm.trans z
    cases z'
    rw [hb]
    exact hT
   ·have z':=(if_neg hb).symm.trans z
    cases z'
  ·by_cases hb:b=T
   ·exact .inr hb
   ·exact absurd (if_neg hb) z
 | none=>
  refine core (λb=>if b=T then some (.tbl #[]) else if b=a then some (.frz { cls:=.type "list", data:=.seq vs.toArray } (.lst (ns.map V.int))) else none) ⟨if_pos rfl,λb=>?_⟩
   (.inl (.inr ⟨{ cls:=.type "list", data:=.seq vs.toArray },(if_neg aT).trans (if_pos rfl)⟩)) (λb u z=>?_) (λb z=>?_) λ_=>hk
  ·by_cases hb:b=T
   ·exact .inl hb
   ·by_cases hb2:b=a
    ·exact .inr (.inr ⟨_,_,(if_neg hb).trans (if_pos hb2)⟩)
    ·exact .inr (.inl ((if_neg hb).trans (if_neg hb2)))
  ·by_cases hb:b=T
   ·have z':=(if_pos hb).symm.trans z
    cases z'
    rw [hb]
    exact hT
   ·by_cases hb2:b=a
    ·have z':=((if_neg hb).trans (if_pos hb2)).symm.trans z
     cases z'
     subst hb2
     exact⟨ha,by rw [List.length_map];exact hl,vs,_,rv,ha⟩
    ·have z':=((if_neg hb).trans (if_neg hb2)).symm.trans z
     cases z'
  ·by_cases hb:b=T
   ·exact .inr hb
   ·by_cases hb2:b=a
    ·exact .inl hb2
    ·exact absurd ((if_neg hb).trans (if_neg hb2)) z
theorem sS {l:PySem.W.OpenLaw}{n k:Nat}{q:Program}{loose:List Str}{XP:(Str->Option Value)->Heap->Prop}{YP:World->Heap->Prop}{d dj:DefRec}{K:Params->PySem.W.Frag}{sp:World->Sp}{x xj:Str}{c T:Addr}
  (hn:l.most=some n) (hn2:n<=sizeLine) (hdf:d.params.defaults=[]) (hr:Room k callerA)
  (hY:∀(w:World) (h:Heap),YP w h->(K w.params).In h)
  (hrj:(recsOf q).find? (λe=>e.name == xj)=some dj) (htab:∀(w:World) (h:Heap),(K w.params).In h->PySem.W.tabIn (K w.params) xj=some (c,T)) (hnt:∀(w:World) (h:Heap),(K w.params).In h->PySem.W.noTabs (K w.params)=true)
  (F:∀(w:World) (mg:Str->Option Value) (fa:Addr) (h:Heap),(K w.params).In h->h.Ns mainGlobals mg->mg d.name=some (.ref fa)->
   ∃fd:FuncData,(∀(s:Shared) (u:Value),BindsTo s fd ⟨[u],[]⟩ [(x,u)])/\
    ∀base:Heap,(K w.params).In base->base.Ns mainGlobals mg->PySem.W.CodeHd base c T->base.BuiltinsAt mg T->FnOk l.prog w (K w.params) mg base CX0 k fa fd [x] (sp w))
  (hsp:∀(w:World) (H:Hp) (a:Addr) (ns:List Int),ns.length<=n->vR T H->SqL (K w.params) H a (ns.map V.int)->sp w [.ref a] H (λv _=>v=.bl true) λ_ _ _=>False) :
  PySem.W.WalkO q loose XP YP l.row.toRowW d [] (λf vs=>PySem.call f vs):=by
 refine Att.attach_call hn hdf λw s₀ s₁ mg mb fa o pm cd doc a vs ns G Y ho hd hcd hmg hobj hints hlen hg=>?_
 have KX:=hY w _ Y
 obtain⟨fd,hb,hF⟩:=F w mg fa _ KX G.T.g hmg
 obtain⟨hC,hT⟩:=PySem.W.tab_of G.T KX hrj (htab w _ KX)
 have hB:s₁.heap.BuiltinsAt mg T:=by
  obtain⟨bm,ob,b1,b2,b3,b4,b5,b6⟩:=G.T.bmain
  refine⟨bm,ob,b1,b2,λz=>?_,λz=>?_,b3,b4,b5,b6⟩
  ·obtain⟨o',es,ep,e,hd',_⟩:=G.T.g
   rw [z,e]at b3;cases b3;rw [hd']at b6;cases b6
  ·rw [z,hT]at b3;cases b3;cases b4
 exact si KX G.T.g G.T.b G.T.builtins G.T.nolimit hg hC hT (hnt w _ KX) hB hobj hints (Nat.le_trans hlen hn2) hr hF hb (λH hO hS=>hsp w H a ns hlen hO hS)
end L2
namespace Strip
section
variable {M:Type} [DecidableEq M]
noncomputable abbrev Row (M:Type):=Int × Int × M
def Has (r:Row M) (n:Int):Prop:=r.1<=n/\n<=r.2.1
noncomputable instance (r:Row M) (n:Int):Decidable (Has r n):=by unfold Has;exact inferInstance
noncomputable def dayOf:List (Row M)->Int->Option M
 | [],_=>none
 | r::t,n=>match dayOf t n with
  | some m=>some m
  | none=>if Has r n then some r.2.2 else none
theorem mw (as bs:List (Row M)) (n:Int):dayOf (as++bs) n=(match dayOf bs n with | some m=>some m | none=>dayOf as n):=by
 induction as with
 | nil=>show dayOf bs n=_;cases dayOf bs n <;> rfl
 | cons r t ih=>
  show (match dayOf (t++bs) n with | some m=>some m | none=>if Has r n then some r.2.2 else none)=_
  rw [ih]
  cases e:dayOf bs n with
  | some m=>rfl
  | none=>rfl
theorem bt (as:List (Row M)) (r:Row M) (n:Int):dayOf (as++[r]) n=if Has r n then some r.2.2 else dayOf as n:=by
 rw [mw]
 show (match (if Has r n then some r.2.2 else none) with | some m=>some m | none=>dayOf as n)=_
 by_cases h:Has r n
 ·rw [if_pos h,if_pos h]
 ·rw [if_neg h,if_neg h]
def ii (r s:Row M):Prop:=r.2.1 < s.1\/s.2.1 < r.1
theorem ii.symm {r s:Row M} (h:ii r s):ii s r:=h.elim .inr .inl
theorem ii.not_both {r s:Row M}{n:Int} (h:ii r s) (h1:Has r n) (h2:Has s n):False:=by
 unfold ii at h;unfold Has at h1 h2;omega
structure Disj (rs:List (Row M)):Prop where
 ap:rs.Pairwise ii
 le:∀r∈rs,r.1<=r.2.1
def Lt (r s:Row M):Prop:=r.2.1 < s.1
structure Rising (rs:List (Row M)):Prop where
 lt:rs.Pairwise Lt
 le:∀r∈rs,r.1<=r.2.1
theorem Rising.disj {rs:List (Row M)} (h:Rising rs):Disj rs:=⟨h.lt.imp λq=>.inl q,h.le⟩
theorem Disj.perm {rs rs':List (Row M)} (h:Disj rs) (p:rs'.Perm rs):Disj rs':=by
 refine⟨?_,λr hr=>h.le r (p.mem_iff.mp hr)⟩
 exact(p.pairwise_iff (λq=>q.symm)).mpr h.ap
theorem ff {rs:List (Row M)}{n:Int}{m:M} (h:dayOf rs n=some m):∃r∈rs,Has r n/\r.2.2=m:=by
 induction rs with
 | nil=>cases h
 | cons r t ih=>
  have h':(match dayOf t n with | some m=>some m | none=>if Has r n then some r.2.2 else none)=some m:=h
  cases e:dayOf t n with
  | some m'=>
   rw [e]at h'
   obtain⟨s,hs,q⟩:=ih (e.trans h')
   exact⟨s,List.mem_cons_of_mem _ hs,q⟩
  | none=>
   rw [e]at h'
   by_cases hr:Has r n
   ·have h2:(if Has r n then some r.2.2 else none)=some m:=h'
    rw [if_pos hr]at h2
    exact⟨r,List.mem_cons_self,hr,Option.some.inj h2⟩
   ·have h2:(if Has r n then some r.2.2 else none)=some m:=h'
    rw [if_neg hr]at h2
    cases h2
theorem dayOf_mem {rs:List (Row M)}{n:Int}{r:Row M} (d:Disj rs) (hr:r∈rs) (hn:Has r n):dayOf rs n=some r.2.2:=by
 induction rs with
 | nil=>cases hr
 | cons s t ih=>
  obtain⟨h1,h2⟩:=List.pairwise_cons.mp d.ap
  have dt:Disj t:=⟨h2,λq hq=>d.le q (List.mem_cons_of_mem _ hq)⟩
  show (match dayOf t n with | some m=>some m | none=>if Has s n then some s.2.2 else none)=_
  rcases List.mem_cons.mp hr with e | hr
  ·subst e
   cases e:dayOf t n with
   | some m=>
    obtain⟨q,hq,hh,_⟩:=ff e
    exact((h1 q hq).not_both hn hh).elim
   | none=>exact if_pos hn
  ·rw [ih dt hr]
theorem gM {rs:List (Row M)}{n:Int} (h:∀r∈rs,¬Has r n):dayOf rs n=none:=by
 cases e:dayOf rs n with
 | none=>rfl
 | some m=>
  obtain⟨r,hr,q,_⟩:=ff e
  exact(h r hr q).elim
theorem ku {rs:List (Row M)}{n:Int} (d:Disj rs) (h:dayOf rs n=none):∀r∈rs,¬Has r n:=λr hr q=>by
 rw [dayOf_mem d hr q]at h;cases h
theorem dayOf_perm {rs rs':List (Row M)} (d:Disj rs) (p:rs'.Perm rs) (n:Int):dayOf rs' n=dayOf rs n:=by
 cases e:dayOf rs n with
 | some m=>
  obtain⟨r,hr,q,rfl⟩:=ff e
  exact dayOf_mem (d.perm p) (p.mem_iff.mpr hr) q
 | none=>exact gM λr hr=>ku d e r (p.mem_iff.mp hr)
def Beside (r s:Row M):Prop:=r.2.1+1=s.1/\r.2.2=s.2.2
noncomputable instance (r s:Row M):Decidable (Beside r s):=by unfold Beside;exact inferInstance
structure Tidy (rs:List (Row M)):Prop where
 up:Rising rs
 no:∀(i:Nat) (r s:Row M),rs[i]?=some r->rs[i+1]?=some s->¬Beside r s
theorem tidy_nil:Tidy ([]:List (Row M)):=⟨⟨List.Pairwise.nil,(λ_ h=>nomatch h)⟩,λi r s h _=>by simp at h⟩
theorem Rising.snoc {as:List (Row M)}{r:Row M} (h:Rising as) (hr:r.1<=r.2.1) (hl:∀s∈as,s.2.1 < r.1):Rising (as++[r]):=by
 refine⟨List.pairwise_append.mpr ⟨h.lt,List.pairwise_singleton _ _,λa ha b hb=>?_⟩,λs hs=>?_⟩
 ·rw [List.mem_singleton.mp hb];exact hl a ha
 ·rcases List.mem_append.mp hs with hs | hs
  ·exact h.le s hs
  ·rw [List.mem_singleton.mp hs];exact hr
theorem Rising.init {as:List (Row M)}{r:Row M} (h:Rising (as++[r])):Rising as:=
 ⟨(List.pairwise_append.mp h.lt).1,λs hs=>h.le s (List.mem_append_left _ hs)⟩
theorem Rising.last {as:List (Row M)}{r:Row M} (h:Rising (as++[r])):∀s∈as,s.2.1 < r.1:=λs hs=>
 (List.pairwise_append.mp h.lt).2.2 s hs r (List.mem_singleton.mpr rfl)
theorem vy {α:Type} (as:List α) (x:α) (i:Nat):(as++[x])[i]?=if i < as.length then as[i]? else if i=as.length then some x else none:=by
 by_cases h:i < as.length
 ·rw [if_pos h,List.getElem?_append_left h]
 ·rw [if_neg h,List.getElem?_append_right ‹1›]
  by_cases h2:i=as.length
  ·rw [if_pos h2,h2];simp
  ·rw [if_neg h2,List.getElem?_eq_none];simp;omega
theorem Tidy.snoc {as:List (Row M)}{r:Row M} (h:Tidy as) (hr:r.1<=r.2.1) (hl:∀s∈as,s.2.1 < r.1) (hn:∀s,as[as.length - 1]?=some s->¬Beside s r):Tidy (as++[r]):=by
 refine⟨h.up.snoc hr hl,λi a b ha hb=>?_⟩
 rw [vy]at ha hb
 by_cases h1:i+1 < as.length
 ·rw [if_pos h1]at hb
  rw [if_pos ‹1›]at ha
  exact h.no i a b ha hb
 ·rw [if_neg h1]at hb
  by_cases h2:i+1=as.length
  ·rw [if_pos h2]at hb
   rw [if_pos ‹1›]at ha
   cases hb
   have:as.length - 1=i:=by omega
   exact hn a (by rw [this];exact ha)
  ·rw [if_neg h2]at hb;cases hb
theorem Tidy.longer {as:List (Row M)}{l r:Row M} (h:Tidy (as++[l])) (hr:r.1<=r.2.1) (hb:Beside l r):Tidy (as++[(l.1,r.2.1,r.2.2)]):=by
 have ll:=h.up.le l (List.mem_append_right _ (List.mem_singleton.mpr rfl))
 obtain⟨b1,b2⟩:=hb
 have up:Rising as:=h.up.init
 have t:Tidy as:=⟨up,λi a b ha hb=>h.no i a b (by rw [List.getElem?_append_left (List.getElem?_eq_some_iff.mp ha).1];exact ha) (by rw [List.getElem?_append_left (List.getElem?_eq_some_iff.mp hb).1];exact hb)⟩
 refine t.snoc (by show l.1<=r.2.1;omega) (λs hs=>h.up.last s hs) λs hs hb=>?_
 have hlen:as.length - 1 < as.length:=(List.getElem?_eq_some_iff.mp hs).1
 refine h.no (as.length - 1) s l (by rw [List.getElem?_append_left hlen];exact hs) ?_ ⟨hb.1,?_⟩
 ·have:as.length - 1+1=as.length:=by omega
  rw [this];simp
 ·show s.2.2=l.2.2
  rw [b2];exact hb.2
theorem mq {as:List (Row M)}{l r:Row M} (h:Rising (as++[l])) (hr:r.1<=r.2.1) (hb:Beside l r) (n:Int):dayOf (as++[(l.1,r.2.1,r.2.2)]) n=dayOf (as++[l]++[r]) n:=by
 have ll:=h.le l (List.mem_append_right _ (List.mem_singleton.mpr rfl))
 obtain⟨b1,b2⟩:=hb
 rw [bt,bt,bt]
 by_cases h1:Has r n
 ·rw [if_pos h1,if_pos]
  unfold Has at h1 ⊢
  dsimp only
  omega
 ·rw [if_neg h1]
  by_cases h2:Has l n
  ·rw [if_pos h2,if_pos,b2]
   unfold Has at h2 ⊢
   dsimp only
   omega
  ·rw [if_neg h2,if_neg]
   unfold Has at h1 h2 ⊢
   dsimp only
   omega
structure Joining (pre acc:List (Row M)):Prop where
 tidy:Tidy acc
 day:∀n,dayOf acc n=dayOf pre n
 lo:∀k:Int,(∀r∈pre,r.2.1 < k)->∀s∈acc,s.2.1 < k
 hi:∀k:Int,(∀r∈pre,k<=r.1)->∀s∈acc,k<=s.1
 len:acc.length<=pre.length
 mark:∀s∈acc,∃r∈pre,s.2.2=r.2.2
theorem Joining.nil:Joining ([]:List (Row M)) []:=⟨tidy_nil,λ_=>rfl,(λ_ _ _ h=>nomatch h),(λ_ _ _ h=>nomatch h),Nat.le_refl _,(λ_ h=>nomatch h)⟩
theorem Joining.put {pre acc:List (Row M)}{r:Row M} (J:Joining pre acc) (hr:r.1<=r.2.1) (hp:∀s∈pre,s.2.1 < r.1) (hn:∀s,acc[acc.length - 1]?=some s->¬Beside s r):Joining (pre++[r]) (acc++[r]):=by
 refine⟨J.tidy.snoc hr (J.lo _ hp) hn,λn=>?_,λk hk s hs=>?_,λk hk s hs=>?_,by rw [List.length_append,List.length_append];have:=J.len;simp only [List.length_singleton];omega,λs hs=>?_⟩
 ·rw [bt,bt,J.day]
 ·rcases List.mem_append.mp hs with hs | hs
  ·exact J.lo k (λr hr=>hk r (List.mem_append_left _ hr)) s hs
  ·exact hk s (List.mem_append_right _ hs)
 ·rcases List.mem_append.mp hs with hs | hs
  ·exact J.hi k (λr hr=>hk r (List.mem_append_left _ hr)) s hs
  ·exact hk s (List.mem_append_right _ hs)
 ·rcases List.mem_append.mp hs with hs | hs
  ·obtain⟨q,hq,e⟩:=J.mark s hs
   exact⟨q,List.mem_append_left _ hq,e⟩
  ·exact⟨s,List.mem_append_right _ hs,rfl⟩
theorem Joining.grow {pre as:List (Row M)}{l r:Row M} (J:Joining pre (as++[l])) (hr:r.1<=r.2.1) (hb:Beside l r):Joining (pre++[r]) (as++[(l.1,r.2.1,r.2.2)]):=by
 refine⟨J.tidy.longer hr hb,λn=>?_,λk hk s hs=>?_,λk hk s hs=>?_,?_,λs hs=>?_⟩
 ·rw [mq J.tidy.up hr hb,bt,bt pre,J.day]
 ·rcases List.mem_append.mp hs with hs | hs
  ·exact J.lo k (λr hr=>hk r (List.mem_append_left _ hr)) s (List.mem_append_left _ hs)
  ·rw [List.mem_singleton.mp hs]
   exact hk r (List.mem_append_right _ (List.mem_singleton.mpr rfl))
 ·rcases List.mem_append.mp hs with hs | hs
  ·exact J.hi k (λr hr=>hk r (List.mem_append_left _ hr)) s (List.mem_append_left _ hs)
  ·rw [List.mem_singleton.mp hs]
   exact J.hi k (λr hr=>hk r (List.mem_append_left _ hr)) l (List.mem_append_right _ (List.mem_singleton.mpr rfl))
 ·have:=J.len
  rw [List.length_append]at this ⊢
  rw [List.length_append]
  simp only [List.length_singleton]at this ⊢
  omega
 ·rcases List.mem_append.mp hs with hs | hs
  ·obtain⟨q,hq,e⟩:=J.mark s (List.mem_append_left _ hs)
   exact⟨q,List.mem_append_left _ hq,e⟩
  ·rw [List.mem_singleton.mp hs]
   exact⟨r,List.mem_append_right _ (List.mem_singleton.mpr rfl),rfl⟩
theorem rising_of_sorted {rs:List (Row M)} (d:Disj rs) (h:rs.Pairwise λr s=>r.1<=s.1):Rising rs:=by
 refine⟨?_,d.le⟩
 have:=List.Pairwise.and_mem.mp (d.ap.and h)
 refine this.imp λ{r s} q=>?_
 obtain⟨hr,hs,q1,q2⟩:=q
 have l1:=d.le r hr
 have l2:=d.le s hs
 unfold ii at q1
 unfold Lt
 omega
end
end Strip
namespace L2
open PySem PySem.Spec PyProof.Rows
theorem bG {H:Hp}{ps:List Addr}{rs:List aY} (h:ci H ps rs):ps.length=rs.length:=Paired.length h
theorem eW {H:Hp}{p:Addr}{r:aY} (hp:H p=some (.tup (cE r))) (hm:bF r.2.2):∀{ps:List Addr}{rs:List aY},ci H ps rs->ci H (ps++[p]) (rs++[r])
 | _,_,.nil=>.cons ⟨hp,hm⟩ .nil
 | _,_,.cons a t=>.cons a (eW hp hm t)
theorem c8 {H H':Hp}:∀{ps:List Addr}{rs:List aY},ci H ps rs->(∀p xs,H p=some (.tup xs)->H' p=some (.tup xs))->ci H' ps rs
 | _,_,.nil,_=>.nil
 | _,_,.cons a t,k=>.cons ⟨k _ _ a.1,a.2⟩ (c8 t k)
theorem dJ {H:Hp}{ps:List Addr}{rs:List aY} (h:ci H ps rs){i:Nat}{p:Addr} (e:ps[i]?=some p):∃r,rs[i]?=some r/\H p=some (.tup (cE r))/\bF r.2.2:=c9 h e
theorem ju {H:Hp}{l:aY}:∀{as:List aY}{ps:List Addr},ci H ps (as++[l])->∃qs pl,ps=qs++[pl]/\ci H qs as/\H pl=some (.tup (cE l))/\bF l.2.2
 | [],_,.cons a t=>by cases t;exact⟨[],_,rfl,.nil,a.1,a.2⟩
 | _::_,_,.cons a t=>by
  obtain⟨qs,pl,e,h1,h2⟩:=ju t
  exact⟨_::qs,pl,by rw [e];rfl,.cons a h1,h2⟩
theorem cZ {H H':Hp}{a:Addr}{rs:List aY} (h:bu H a rs) (ka:∀xs,H a=some (.lst xs)->H' a=some (.lst xs)) (k:∀p xs,H p=some (.tup xs)->H' p=some (.tup xs)):bu H' a rs:=by
 obtain⟨ps,e,r⟩:=h
 exact⟨ps,ka _ e,c8 r k⟩
theorem dL {H:Hp}{a:Addr} (e:H a=some (.lst [])):bu H a []:=⟨[],e,.nil⟩
section
variable {T:Addr}{pos:Pos}{q:Str}{H H':Hp}
theorem Go.tup (G:Go T pos q H H') (L:dI T pos q H){p:Addr}{xs:List V} (e:H p=some (.tup xs)):H' p=some (.tup xs):=G.at L e λ_ z=>by cases z
theorem Go.lst (G:Go T pos q H H') (L:dI T pos q H){p:Addr}{xs:List V} (e:H p=some (.lst xs)):H' p=some (.lst xs):=G.at L e λ_ z=>by cases z
theorem Go.dK (G:Go T pos q H H') (L:dI T pos q H){p:Addr}{xs:List (Key × V)} (e:H p=some (.dK xs)):H' p=some (.dK xs):=G.at L e λ_ z=>by cases z
theorem Go.rows (G:Go T pos q H H') (L:dI T pos q H){a:Addr}{rs:List aY} (h:bu H a rs):bu H' a rs:=cZ h (λ_ e=>G.lst L e) λ_ _ e=>G.tup L e
theorem Go.none (G:Go T pos q H H'){b:Addr} (e:H' b=.none) (n:b≠T):H b=.none:=by
 cases z:H b with
 | none=>rfl
 | some o=>rw [G.same b o n z]at e;cases e
end
theorem rH {α β:Type}{g:α->β}:∀{zs ws:List β},zs.Perm ws->∀xs:List α,ws=xs.map g->∃ys:List α,ys.Perm xs/\zs=ys.map g:=by
 intro zs ws h
 induction h with
 | nil=>
  intro xs e
  cases xs with
  | nil=>exact⟨[],.nil,rfl⟩
  | cons _ _=>cases e
 | cons a _ ih=>
  intro xs e
  cases xs with
  | nil=>cases e
  | cons x xs=>
   rw [List.map_cons]at e
   injection e with e1 e2
   obtain⟨ys,p,e3⟩:=ih xs e2
   exact⟨x::ys,p.cons x,by rw [List.map_cons,e1,e3]⟩
 | swap a b l=>
  intro xs e
  cases xs with
  | nil=>cases e
  | cons x xs=>
   cases xs with
   | nil=>cases e
   | cons y xs=>
    rw [List.map_cons,List.map_cons]at e
    injection e with e1 e2
    injection e2 with e2 e3
    exact⟨y::x::xs,.swap x y xs,by rw [List.map_cons,List.map_cons,e1,e2,e3]⟩
 | trans _ _ ih1 ih2=>
  intro xs e
  obtain⟨ys,p,e2⟩:=ih2 xs e
  obtain⟨zs,p2,e3⟩:=ih1 ys e2
  exact⟨zs,p2.trans p,e3⟩
theorem kN {H:Hp}:∀{ps:List Addr}{rs:List aY},ci H ps rs->∀z∈ps.zip rs,H z.1=some (.tup (cE z.2))/\bF z.2.2.2
 | _,_,.nil,z,hz=>by cases hz
 | _,_,.cons a t,z,hz=>by
  rw [List.zip_cons_cons]at hz
  rcases List.mem_cons.mp hz with e | hz
  ·rw [e];exact a
  ·exact kN t z hz
theorem nu {H:Hp}:∀{ys:List (Addr × aY)},(∀z∈ys,H z.1=some (.tup (cE z.2))/\bF z.2.2.2)->ci H (ys.map (·.1)) (ys.map (·.2))
 | [],_=>.nil
 | z::ys,h=>.cons (h z List.mem_cons_self) (nu λy hy=>h y (List.mem_cons_of_mem _ hy))
theorem nq {H:Hp}{ps:List Addr}{rs:List aY} (h:ci H ps rs){zs:List (Int × Addr)} (p:zs.Perm ((rs.map (·.1)).zip ps)) (s:zs.Pairwise λa b=>a.1<=b.1) :
  ∃qs ss,ci H qs ss/\ss.Perm rs/\(ss.Pairwise λr t=>r.1<=t.1)/\(zs.map λz=>V.ref z.2)=qs.map V.ref:=by
 have hl:=bG h
 have e:(rs.map (·.1)).zip ps=(ps.zip rs).map λz=>(z.2.1,z.1):=by
  clear p s hl
  unfold ci at h
  induction h with
  | nil=>rfl
  | cons _ _ ih=>rw [List.map_cons,List.zip_cons_cons,List.zip_cons_cons,List.map_cons,ih]
 rw [e]at p
 obtain⟨ys,py,ez⟩:=rH p _ rfl
 refine⟨ys.map (·.1),ys.map (·.2),nu λz hz=>kN h z (py.mem_iff.mp hz),?_,?_,?_⟩
 ·have:=py.map (·.2)
  rw [List.map_snd_zip ‹1›]at this
  exact this
 ·rw [List.pairwise_map]
  rw [ez,List.pairwise_map]at s
  exact s
 ·rw [ez,List.map_map,List.map_map]
  rfl
section
variable {X:Cx}
theorem bS:eF X (.builtin "isinstance") (λxs H Q=>∃x n t b,xs=[x,.ty n]/\TyOf X.K H x t/\PySem.W.kitOne X.K t (.type n)=some b/\Q (.bl b) H):=by
 intro pins s σ H xs us Q I r h
 obtain⟨x,n,t,b,rfl,ty,e,q⟩:=h
 obtain⟨u,u2,rfl,rx,rt⟩:=pU r
 cases (show u2=Value.type n from rt)
 exact sq I rx ty e λtk=>⟨.bl b,H,I.tok _,rfl,q⟩
end
theorem jN (n:Nat):ixN (n+1) (-1)=some n:=by
 unfold ixN
 rw [if_neg (by decide),if_pos ‹1›]
 congr 1
 omega
theorem jw {H:Hp}{st p:Addr}{as:List Addr}{acc:List aY}{r:aY} (hst:H st=some (.lst (as.map V.ref))) (hrs:ci H as acc) (np:H p=none) (hm:bF r.2.2) :
  bu (upd (upd H p (.tup (cE r))) st (.lst (as.map V.ref++[V.ref p]))) st (acc++[r])/\∀b o,b≠st->H b=some o->upd (upd H p (.tup (cE r))) st (.lst (as.map V.ref++[V.ref p])) b=some o:=by
 have ps:p≠st:=λz=>by rw [z,hst]at np;cases np
 have keep:∀b o,b≠st->H b=some o->upd (upd H p (.tup (cE r))) st (.lst (as.map V.ref++[V.ref p])) b=some o:=λb o n e=>by
  rw [ag n,ag (af e np)];exact e
 refine⟨⟨as++[p],?_,eW ?_ hm (c8 hrs λb xs e=>keep b _ (aD e hst (by intro z;cases z)) e)⟩,keep⟩
 ·rw [ae,List.map_append];rfl
 ·rw [ag ps,ae]
theorem t8 {H:Hp}{st p pl:Addr}{qs:List Addr}{acc:List aY}{r:aY} (hst:H st=some (.lst ((qs++[pl]).map V.ref))) (hrs:ci H qs acc) (np:H p=none) (hm:bF r.2.2) :
  bu (upd (upd H p (.tup (cE r))) st (.lst (((qs++[pl]).map V.ref).set qs.length (V.ref p)))) st (acc++[r])/\∀b o,b≠st->H b=some o->upd (upd H p (.tup (cE r))) st (.lst (((qs++[pl]).map V.ref).set qs.length (V.ref p))) b=some o:=by
 have ps:p≠st:=λz=>by rw [z,hst]at np;cases np
 have keep:∀b o,b≠st->H b=some o->upd (upd H p (.tup (cE r))) st (.lst (((qs++[pl]).map V.ref).set qs.length (V.ref p))) b=some o:=λb o n e=>by
  rw [ag n,ag (af e np)];exact e
 refine⟨⟨qs++[p],?_,eW ?_ hm (c8 hrs λb xs e=>keep b _ (aD e hst (by intro z;cases z)) e)⟩,keep⟩
 ·rw [ae,List.map_append,List.map_append,List.set_append]
  simp
 ·rw [ag ps,ae]
theorem dI.row {T:Addr}{pos:Pos}{q:Str}{H:Hp} (L:dI T pos q H){st p:Addr}{xs ys zs:List V} (hst:H st=some (.lst xs)) (np:H p=none):dI T pos q (upd (upd H p (.tup zs)) st (.lst ys)):=by
 refine(L.upd_new np).upd_own (u:=.lst xs) ?_ (λ_ z=>by cases z) λ_ z=>by cases z
 rw [ag (af hst np)];exact hst
end L2
namespace Strip
section
variable {M:Type} [DecidableEq M]
structure DG (cs:List (Row M)) (g:Int->Option M):Prop where
 dj:Disj cs
 day:∀n,dayOf cs n=g n
theorem DG.nil:DG ([]:List (Row M)) λ_=>none:=⟨⟨List.Pairwise.nil,(λ_ h=>nomatch h)⟩,λ_=>rfl⟩
theorem DG.eq {cs:List (Row M)}{g g':Int->Option M} (h:DG cs g) (e:∀n,g n=g' n):DG cs g':=⟨h.dj,λn=>(h.day n).trans (e n)⟩
theorem DG.put {cs:List (Row M)}{g:Int->Option M}{c:Row M} (h:DG cs g) (hc:c.1<=c.2.1) (no:∀n,Has c n->g n=none):DG (cs++[c]) (λn=>if Has c n then some c.2.2 else g n):=by
 refine⟨⟨List.pairwise_append.mpr ⟨h.dj.ap,List.pairwise_singleton _ _,λa ha b hb=>?_⟩,λs hs=>?_⟩,λn=>?_⟩
 ·rw [List.mem_singleton.mp hb]
  have la:=h.dj.le a ha
  unfold ii
  by_cases h1:a.2.1 < c.1
  ·exact .inl h1
  ·by_cases h2:c.2.1 < a.1
   ·exact .inr h2
   ·exfalso
    by_cases h3:a.1<=c.1
    ·have:=no c.1 ⟨Int.le_refl _,hc⟩
     rw [<- h.day,dayOf_mem h.dj ha ⟨h3,by omega⟩]at this
     cases this
    ·have:=no a.1 ⟨by omega,by omega⟩
     rw [<- h.day,dayOf_mem h.dj ha ⟨Int.le_refl _,la⟩]at this
     cases this
 ·rcases List.mem_append.mp hs with hs | hs
  ·exact h.dj.le s hs
  ·rw [List.mem_singleton.mp hs];exact hc
 ·rw [bt,h.day]
theorem Disj.ahead {rs:List (Row M)} (d:Disj rs){i:Nat}{r:Row M} (e:rs[i]?=some r){n:Int} (h:Has r n):dayOf (rs.take i) n=none:=by
 refine gM λs hs hh=>?_
 obtain⟨hlt,e2⟩:=List.getElem?_eq_some_iff.mp e
 obtain⟨j,hj,ej⟩:=List.mem_iff_getElem.mp hs
 rw [List.length_take]at hj
 rw [List.getElem_take]at ej
 have:=List.pairwise_iff_getElem.mp d.ap j i ‹1› hlt ‹1›
 rw [ej,e2]at this
 exact this.not_both hh h
theorem take_snoc {α:Type}{rs:List α}{i:Nat}{r:α} (e:rs[i]?=some r):rs.take (i+1)=rs.take i++[r]:=by rw [List.take_add_one,e];rfl
theorem cut_put {rs cs:List (Row M)}{f l:Int}{i:Nat}{r:Row M} (d:Disj rs) (e:rs[i]?=some r) (hfl:f<=l) (h1:r.1<=l) (h2:f<=r.2.1){a b:Int} (ha:a=if f > r.1 then f else r.1) (hb:b=if l < r.2.1 then l else r.2.1)
  (D:DG cs λn=>if f<=n/\n<=l then dayOf (rs.take i) n else none):DG (cs++[(a,b,r.2.2)]) (λn=>if f<=n/\n<=l then dayOf (rs.take (i+1)) n else none)/\f<=a/\b<=l:=by
 have hr:=d.le r (List.mem_of_getElem? e)
 have a1:f<=a/\r.1<=a/\(a=f\/a=r.1):=by rw [ha];split <;> omega
 have b1:b<=l/\b<=r.2.1/\(b=l\/b=r.2.1):=by rw [hb];split <;> omega
 refine⟨(D.put (c:=(a,b,r.2.2)) (by show a<=b;omega) λn hn=>?_).eq λn=>?_,a1.1,b1.1⟩
 ·unfold Has at hn
  rw [if_pos (by dsimp only at hn;omega)]
  exact d.ahead e ⟨by dsimp only at hn;omega,by dsimp only at hn;omega⟩
 ·rw [take_snoc e,bt]
  by_cases z:f<=n/\n<=l
  ·rw [if_pos z,if_pos z]
   by_cases y:Has r n
   ·rw [if_pos y,if_pos]
    unfold Has at y ⊢
    dsimp only
    omega
   ·rw [if_neg y,if_neg]
    unfold Has at y ⊢
    dsimp only
    omega
  ·rw [if_neg z,if_neg z,if_neg]
   unfold Has
   dsimp only
   omega
theorem cut_skip {rs cs:List (Row M)}{f l:Int}{i:Nat}{r:Row M} (e:rs[i]?=some r) (h:¬(r.1<=l/\f<=r.2.1))
  (D:DG cs λn=>if f<=n/\n<=l then dayOf (rs.take i) n else none):DG cs (λn=>if f<=n/\n<=l then dayOf (rs.take (i+1)) n else none):=D.eq λn=>by
 rw [take_snoc e,bt]
 by_cases z:f<=n/\n<=l
 ·rw [if_pos z,if_pos z,if_neg]
  unfold Has
  omega
 ·rw [if_neg z,if_neg z]
noncomputable def fillG (z:M) (pre:List (Row M)) (f day:Int):Int->Option M:=λn=>if f<=n/\n < day then some ((dayOf pre n).getD z) else none
theorem fill_gap {z:M}{pre cs:List (Row M)}{f day e:Int} (D:DG cs (fillG z pre f day)) (hp:∀r∈pre,r.2.1 < day) (h0:f<=day) (h:day<=e){e':Int} (he:e'=e+1):DG (cs++[(day,e,z)]) (fillG z pre f e'):=by
 subst he
 refine(D.put (c:=(day,e,z)) h λn hn=>?_).eq λn=>?_
 ·unfold Has at hn
  exact if_neg (by dsimp only at hn;omega)
 ·unfold fillG
  by_cases y:Has ((day,e,z):Row M) n
  ·unfold Has at y
   dsimp only at y
   rw [if_pos (show Has ((day,e,z):Row M) n from y),if_pos ‹1›,gM λr hr q=>?_]
   ·rfl
   ·have:=hp r hr
    unfold Has at q
    omega
  ·rw [if_neg y]
   unfold Has at y
   dsimp only at y
   by_cases x:f<=n/\n < day
   ·rw [if_pos x,if_pos ‹1›]
   ·rw [if_neg x,if_neg ‹1›]
theorem fill_row {z:M}{pre cs:List (Row M)}{f:Int}{r:Row M} (D:DG cs (fillG z pre f r.1)) (hr:r.1<=r.2.1) (h0:f<=r.1){e':Int} (he:e'=r.2.1+1):DG (cs++[r]) (fillG z (pre++[r]) f e'):=by
 subst he
 refine(D.put hr λn hn=>?_).eq λn=>?_
 ·unfold Has at hn
  exact if_neg ‹1›
 ·unfold fillG
  rw [bt]
  by_cases y:Has r n
  ·rw [if_pos y,if_pos y,if_pos]
   ·rfl
   ·unfold Has at y;omega
  ·rw [if_neg y,if_neg y]
   unfold Has at y
   by_cases x:f<=n/\n < r.1
   ·rw [if_pos x,if_pos ‹1›]
   ·rw [if_neg x,if_neg ‹1›]
noncomputable def laidG (m:M) (rs:List (Row M)) (f l:Int):Int->Option M:=λn=>if f<=n/\n<=l then some m else dayOf rs n
end
end Strip
namespace L2
open PySem PySem.Spec PyProof.Rows
noncomputable def cu (X:Cx) (scope:Scope) (cl:List (Str × Addr)) (N:List Str) (C:Addr) (fp:List Addr) (s:Shared) (H:Hp):Cx where
 prog:=X.prog
 w:=X.w
 K:=X.K
 mg:=X.mg
 base:=X.base
 A:=X.A
 N:=N
 s₀:=s
 H₀:=H
 env:=compEnvC scope cl C X.env
 outer:=X.stack
 stack:=X.stack
 ex:=fp
 fn:=λ_=>false
 calm:=true
 pn:=[]
 xe:=λ_ _=>False
noncomputable def bX (sub:List Nat) (σ:St):St:=sub.map λi=>(σ[i]?).join
def PTs (X:Cx) (ifs:List Expr) (t:TT):Prop:=
 ∀(pins:List (Addr × Obj)) (s:Shared) (σ:St) (H:Hp) (Q:Bool->Hp->Prop),Inv X pins σ H s->t σ H Q->
  wpAny (model X.prog X.w) X.A (forIn ifs true λc r=>if r=true then do let ok <- isTrue c X.env (eval c X.env);pure (ForInStep.yield ok) else pure (ForInStep.yield r)) (TP X pins σ Q) X.xe s
theorem dE {X:Cx}:PTs X [] (λ_ H Q=>Q true H):=λ_ _ _ H _ I h=>wpAny_tests_nil ⟨H,I,h⟩
theorem wI {X:Cx}{c:Expr}{t:TT} (h:PT X c t):PTs X [c] t:=λpins s σ H Q I q=>wpAny_tests_one (h pins s σ H Q I q)
noncomputable def jf (wi:TI) (sub:List Nat) (tt:TT) (te:TE):TE:=λσ H Q=>wi σ H λJ H1=>∀D,H1 D=none->∃W:Nat->Nat->List V->Hp->Prop,(∃m,W 0 m [] (upd H1 D (.lst [])))/\∀i m ys H2,W i m ys H2->
 (J.stop i H2/\Q (.ref D) H2)\/(J.go i H2/\∃N:List V->Hp->Prop,(∀ys' H',N ys' H'->∃m',m' < m/\W (i+1) m' ys' H')/\∀v H3,J.yld i H2 v H3->tt (some v::bX sub σ) H3 λb H4=>if b=true then
  te (some v::bX sub σ) H4 λy H5=>H5 D=some (.lst ys)/\ys.length < sizeLine/\N (ys++[y]) (upd H5 D (.lst (ys++[y])))
  else N ys H4)
def PEC (X:Cx) (e iter:Expr) (scope:Scope) (te:TE):Prop:=
 ∀(pos:Pos) (pins:List (Addr × Obj)) (s:Shared) (σ:St) (H:Hp) (Q:VK) (use:Option (Value->Sem Unit)) (QV:Value->Shared->Prop),Inv X pins σ H s->te σ H Q->
  (∀(D C:Addr) (H':Hp) (s':Shared),Inv X pins σ H' s'->gN X pins H' C->(∃m,s'.heap.Ns C m)->Q (.ref D) H'->compPost (model X.prog X.w) X.A X.xe use QV (.ref D) C (.ok .next) s')->
  wpAny (model X.prog X.w) X.A (comprehension e scope X.env pos (newList []) false (eval iter X.env) use) QV X.xe s
theorem gN.turn {X:Cx}{pins:List (Addr × Obj)}{σ:St}{H:Hp}{s:Shared}{h':Heap}{C:Addr} (f:gN X pins H C) (I:Inv X pins σ H s) (hs:Heap.SameBut C s.heap h'):Inv X pins σ H { s with heap:=h' }:=
 I.turned (h':=h') (t':=s.toks) (it:=C) (λb o n e=>(hs.2 b n).trans e) f.1 f.2.1 f.2.2.2.1 f.2.2.2.2.1 f.2.2.2.2.2
theorem kQ {X:Cx}{elt tg iter:Expr}{ifs:List Expr}{scope:Scope}{pos:Pos}{te:TE} (h:PEC X (.ListComp elt [⟨tg,iter,ifs,0⟩] scope pos) iter scope te):PE X (.ListComp elt [⟨tg,iter,ifs,0⟩] scope pos) te:=by
 intro pins s σ H Q I q
 rw [eval_ListComp]
 refine h _ pins s σ H Q none _ I q λD C H' s' K1 fC ⟨m,hm⟩ q=>⟨m,hm,λh' hsb'=>⟨.ref D,H',fC.turn K1 hsb',rfl,q⟩⟩
theorem j6 {X:Cx}{elt tg iter:Expr}{ifs:List Expr}{scope:Scope}{pos spos py:Pos}{te:TE}{i:Nat}{y:Str} (hN:X.N.Nodup) (hi:X.N[i]?=some y) (hx:Loc X.env.scope y)
  (h:PEC X (.ListComp elt [⟨tg,iter,ifs,0⟩] scope pos) iter scope te) (hsw:swapsWith (.ListComp elt [⟨tg,iter,ifs,0⟩] scope pos) (some (.Name y py)) spos.line X.env=pure true:=by rfl)
  (hf:X.fn y=true\/X.env.scope.names.lookup y=some .local:=by first | exact .inl rfl | exact .inr rfl | assumption):PS X (.Assign [.Name y py] (.ListComp elt [⟨tg,iter,ifs,0⟩] scope pos) spos) (t7 te (aK i)):=by
 intro pins s σ H D I q
 rw [exec_Assign_Name_used _ _ _ _ hsw]
 refine zB0 (wpAny_standAt (zB0 ?_))
 show wpAny _ X.A (do let _ <- comprehension (.ListComp elt [⟨tg,iter,ifs,0⟩] scope pos) scope X.env _ (newList []) false (eval iter X.env) (some (assign (.Name y py) X.env))) _ _ s
 refine zB0 (wpAny_mono (h _ pins s σ H _ (some (assign (.Name y py) X.env)) (λ_ s'=>SP X pins D .next s') I q λDa C H' s' K1 fC hm q=>?_) (λ_ s' hq=>zP0 (zP0 hq)) λ_ _ e=>e)
 show wpAny _ X.A (assign (.Name y py) X.env (.ref Da)) _ _ _
 refine wpAny_assign_Name (kF K1 hN hi hx (v:=.ref Da) rfl (λs2 I2 hh=>?_) hf)
 obtain⟨m,hm⟩:=hm
 obtain⟨a,hsb,ha⟩:=hh
 have hne:C≠a:=by
  rcases ha with z | z
  ·rw [z];exact fC.2.1
  ·exact λe=>fC.2.2.2.2.1 _ _ z e.symm
 exact⟨m,hm.sameBut hsb hne,λh' hs'=>⟨_,H',fC.turn I2 hs',q⟩⟩
section
variable {prog:Program}{w:World}{A:Around}{R:Result->Shared->Prop}{s:Shared}
noncomputable abbrev li (prog:Program) (w:World) (A:Around) (env:Env) (R:Result->Shared->Prop):Value->Shared->Prop:=notedBy (model prog w) A env λx s'=>R (.error x) s'
theorem pF {elt tg iter:Expr}{ifs:List Expr}{scope:Scope}{pos:Pos}{it acc:Value}{env:Env} (J:Nat->Shared->Prop)
  (go:∀n s,J n s->wpAny (model prog w) A (pyNext it) (λr s1=>match r with
   | none=>R (.ok .next) s1
   | some v=>wpAny (model prog w) A (letOwnedTupleGo tg it v) (λ_ s1'=>wpAny (model prog w) A (assign tg env v) (λ_ s2=>
     wpAny (model prog w) A (forIn ifs true λc r=>if r=true then do let ok <- isTrue c env (eval c env);pure (ForInStep.yield ok) else pure (ForInStep.yield r)) (λb s3=>
      if b=true then wpAny (model prog w) A (eval elt env) (λx s4=>wpAny (model prog w) A (call (.builtin "list.append") [acc,x]) (λ_ s5=>∃m,m < n/\J m s5) (li prog w A env R) s4) (li prog w A env R) s3
      else ∃m,m < n/\J m s3) (li prog w A env R) s2) (li prog w A env R) s1') (li prog w A env R) s1) (li prog w A env R) s)
  (n:Nat) (h0:J n s):codeAny (model prog w) A (.compLoop (.ListComp elt [⟨tg,iter,ifs,0⟩] scope pos) 0 it acc env) R s:=by
 refine codeAny_loop rfl J (λn s hI=>?_) n h0
 have e:((compTurn (.ListComp elt [⟨tg,iter,ifs,0⟩] scope pos) 0 it acc env).onRaise λx=>do noteFrame x env;theTreesLotGoes x)=((compTurn (.ListComp elt [⟨tg,iter,ifs,0⟩] scope pos) 0 it acc env).onRaise λx=>do noteFrame x env;theTreesLotGoes x):=rfl
 show wpAny _ A ((compTurn (.ListComp elt [⟨tg,iter,ifs,0⟩] scope pos) 0 it acc env).onRaise λx=>do noteFrame x env;theTreesLotGoes x) _ _ s
 apply wpAny_noted
 rw [compTurn_list]
 refine zB0 (wpAny_standAt (zB0 (thn (go n s hI) λr s1 h1=>?_)))
 cases r with
 | none=>exact zP0 h1
 | some v=>
  refine zB0 (thn h1 λ_ s1' h1'=>zB0 (thn h1' λ_ s2 h2=>zB0 (thn h2 λb s3 h3=>?_)))
  cases b with
  | false=>exact zP0 ⟨rfl,h3⟩
  | true=>exact zB0 (zB0 (thn h3 λx s4 h4=>zB0 (thn h4 λ_ s5 h5=>zP0 (zP0 ⟨rfl,h5⟩))))
end
def AV (g:TG) (n:Nat) (sub:List Nat) (tt:TT) (te:TE) (σ:St) (Q:VK) (J:It) (H1:Hp):Prop:=∀D,H1 D=none->∃W:Nat->Nat->List V->Hp->Prop,(∃m,W 0 m [] (upd H1 D (.lst [])))/\∀i m ys H2,W i m ys H2->
 (J.stop i H2/\Q (.ref D) H2)\/(J.go i H2/\∃N:List V->Hp->Prop,(∀ys' H',N ys' H'->∃m',m' < m/\W (i+1) m' ys' H')/\∀v H3,J.yld i H2 v H3->∀τ:List (Option V),τ.length=n->g v (τ++bX sub σ) H3 λσ' H'=>(∃τ':List (Option V),τ'.length=n/\σ'=τ'++bX sub σ)/\tt σ' H' λc H4=>if c=true then
  te σ' H4 λy H5=>H5 D=some (.lst ys)/\ys.length < sizeLine/\N (ys++[y]) (upd H5 D (.lst (ys++[y])))
  else N ys H4)
section
variable {X:Cx}
theorem kP {elt tg iter:Expr}{xn:List Str}{g:TG}{CB:St->VK->It->Hp->Prop}{pos:Pos}{ifs:List Expr}{scope:Scope}{cl:List (Str × Addr)}{sub:List Nat}{fv:List Str}{wi:TI}{tt:TT}{te:TE}
  (hc:X.calm=true) (hi:PI X tg iter wi) (hclos:closureFor scope X.env=pure cl)
  (hcell:∀y∈scope.names,y.2≠.cell) (hkind:scope.kind=.function) (hnames:∀y∈scope.names,y.2=.local->scope.names.lookup y.1=some .local)
  (hl:sub.length=fv.length) (hsub:∀(j:Nat) (i:Nat) (y:Str),sub[j]?=some i->fv[j]?=some y->X.N[i]?=some y/\Vis X.env.scope y/\X.env.kindOf y≠some .local)
  (hvis:∀y∈fv,(compEnvC scope cl 0 X.env).kindOf y=some .cell\/(compEnvC scope cl 0 X.env).kindOf y=some .free)
  (hcl:∀y c,cl.lookup y=some c->X.env.cells.lookup y=some c) (hcl2:∀y∈fv,cl.lookup y=X.env.cells.lookup y)
  (hhas:∀y,((compEnvC scope cl 0 X.env).kindOf y=some .cell\/(compEnvC scope cl 0 X.env).kindOf y=some .free)->∃c,cl.lookup y=some c)
  (hg:∀C fp s H,PG (cu X scope cl (xn++fv) C fp s H) tg g) (ht:∀C fp s H,PTs (cu X scope cl (xn++fv) C fp s H) ifs tt) (he:∀C fp s H,PE (cu X scope cl (xn++fv) C fp s H) elt te)
  (hCB:∀σ Q J H1,CB σ Q J H1->AV g xn.length sub tt te σ Q J H1) (hs:∀x,foldedSetIterable iter X.env x=pure x:=by intro _;rfl):PEC X (.ListComp elt [⟨tg,iter,ifs,0⟩] scope pos) iter scope (λσ H Q=>wi σ H λJ H1=>CB σ Q J H1):=by
 intro upos pins s σ H Q use QV I h hend
 refine wpAny_comprehension_free (use:=use) rfl hs hclos hkind hnames ?_
 refine thn (hi pins s σ H _ I h) λv s1 h1=>thn h1 λitv s2 h2=>?_
 obtain⟨it,fp,tn,J,H2,e,I2,T,st2,f2,h⟩:=h2
 subst e
 refine wpAny_newList ?_ (Nat.zero_le _)
 have nD:H2 s2.heap.objs.size=none:=I2.hok.fresh (Nat.le_refl _)
 obtain⟨W,⟨m0,w0⟩,turn⟩:=hCB _ _ _ _ h s2.heap.objs.size nD
 have I3:=I2.lnew (ys:=[]) (its:=[]) (t':=s2.toks) .nil (Nat.zero_le _)
 generalize hs3:({ s2 with heap:=s2.heap.push { cls:=.type "list", data:=.seq ([]:List Value).toArray },toks:=s2.toks }:Shared)=s3 at I3
 have hDlt:s2.heap.objs.size < s3.heap.objs.size:=by rw [<- hs3];show _ < (s2.heap.push _).objs.size;rw [Heap.size_push];exact Nat.lt_succ_self _
 have old3:∀b o,s2.heap.get? b=some o->s3.heap.get? b=some o:=λb o e=>by rw [<- hs3];exact zH0 _ e
 generalize hD:s2.heap.objs.size=D at *
 refine wpAny_newFunctionEnv hcell (by intro y hy;simp at hy) (λh₁ hns hsb=>?_) hkind
 generalize hC:s3.heap.objs.size=C at *
 have kept:∀b o,s3.heap.get? b=some o->h₁.get? b=some o:=λb o e=>(hsb.2 b (by rw [<- hC];exact Nat.ne_of_lt (Heap.lt_size e))).trans (zH0 _ e)
 have nC:upd H2 D (.lst []) C=none:=I3.hok.fresh (Nat.le_of_eq hC)
 have fC:gN X pins (upd H2 D (.lst [])) C:=I3.fpOk (Nat.le_of_eq hC) nC
 have fp3:∀b∈fp,b < s2.heap.objs.size:=λb hb=>by obtain⟨o,e,_⟩:=T.obj _ _ st2 b hb;exact Heap.lt_size e
 have fpC:∀b∈fp,b≠C:=λb hb=>by rw [<- hC];exact Nat.ne_of_lt (Nat.lt_of_lt_of_le (fp3 b hb) (by rw [hD];exact Nat.le_of_lt (hC ▸ hDlt)))
 have fpD:∀b∈fp,b≠D:=λb hb=>by rw [<- hD];exact Nat.ne_of_lt (fp3 b hb)
 have ok':(cu X scope cl (xn++fv) C fp s3 (upd H2 D (.lst []))).Ok:=by
  refine⟨I.ok.mod,hkind,I.ok.glob,I.ok.blt,Nat.le_of_eq hC,λy z c e1 e2=>I.ok.inj y z c (hcl y c e1) (hcl z c e2),λy hy=>hhas y hy,(λy c e _=>by cases e),λ_=>I.ok.hd hc,I.ok.frames,.inl rfl,λb hb=>⟨fpC b hb,λy c e=>(f2 b hb).2.2.2.2.1 y c (hcl y c e)⟩,I3.bs,Nat.le_trans I.ok.bsz I3.sz,
   λb o e hb=>?_,λb hb hf=>?_,I3.stack,I3.stkFree⟩
  ·rcases (f2 b hb).2.2.2.1 with z | z
   ·exact I.ok.noex b o e z
   ·exact absurd (Nat.lt_of_lt_of_le (Heap.lt_size e) (Nat.le_trans I.ok.bsz z)) (Nat.lt_irrefl _)
  ·rcases List.mem_cons.mp (I3.stkSub b hf) with z | z
   ·exact(f2 b hb).2.1 z
   ·exact(f2 b hb).2.2.1 z
 have lenσ:∀τ:List (Option V),τ.length=xn.length->(τ++bX sub σ).length=(xn++fv).length:=λτ ht=>by
  unfold bX
  rw [List.length_append,List.length_append,List.length_map,hl,ht]
 have I4:∀t',Inv (cu X scope cl (xn++fv) C fp s3 (upd H2 D (.lst []))) [] (List.replicate xn.length none++bX sub σ) (upd H2 D (.lst [])) { s3 with heap:=h₁,toks:=t' }:=λt'=>by
  refine⟨ok',rfl,I3.bare,Un.kept kept,⟨_,hns,λi y v e1 e2 e3=>?_⟩,λy c e=>?_,nC,λy c e=>I3.freeC y c (hcl y c e),(λp hp=>by cases hp),I3.hok.kept kept,lenσ _ (List.length_replicate ..)⟩
  ·by_cases hi:i < xn.length
   ·rw [List.getElem?_append_left (by rw [List.length_replicate];exact hi),List.getElem?_replicate,if_pos hi]at e2
    cases e2
   ·have e1:(xn++fv)[i]?=some y:=e1
    rw [List.getElem?_append_right ‹1›]at e1
    rw [List.getElem?_append_right (by rw [List.length_replicate];omega),List.length_replicate]at e2
    generalize i - xn.length=j at e1 e2
    unfold bX at e2
    rw [List.getElem?_map]at e2
    cases ei:sub[j]? with
    | none=>rw [ei]at e2;cases e2
    | some i=>
     rw [ei]at e2
     have e2:(σ[i]?).join=some v:=Option.some.inj e2
     obtain⟨n1,n2,n3⟩:=hsub j i y ei e1
     have e4:σ[i]?=some (some v):=by
      cases q:σ[i]? with
      | none=>rw [q]at e2;cases e2
      | some w'=>rw [q]at e2;cases w' with
       | none=>cases e2
       | some v'=>cases e2;rfl
     obtain⟨m,hn,hl'⟩:=I3.loc
     obtain⟨u,ru,lu⟩:=hl' i y v n1 e4 n2
     refine⟨u,ru,?_⟩
     rcases lu with⟨k1,_⟩ | ⟨k1,c,ec,ic⟩
     ·exact absurd k1 n3
     ·have hy:=List.mem_of_getElem? e1
      exact .inr ⟨hvis y hy,c,(hcl2 y hy).trans ec,ic.keeps kept⟩
  ·obtain⟨v,z⟩:=I3.cell y c (hcl y c e)
   exact⟨v,z.keeps kept⟩
 have back:∀{σ':St}{H':Hp}{s':Shared},Inv (cu X scope cl (xn++fv) C fp s3 (upd H2 D (.lst []))) [] σ' H' s'->Q (.ref D) H'->
   compPost (model X.prog X.w) X.A X.xe use QV (.ref D) C (.ok .next) s':=λ{σ' H' s'} J' q=>by
  obtain⟨m,hm,_⟩:=id J'.loc
  have hos:s'.os=s3.os:=J'.os
  have K1:Inv X pins σ H' s':=I3.call' (ch:=fp) hos J'.base J'.hok J'.bare λb hb=>⟨(f2 b hb).2.2.2.1,(f2 b hb).2.1,(f2 b hb).2.2.2.2.1,(f2 b hb).2.2.2.2.2⟩
  exact hend D C H' s' K1 ⟨J'.free,fC.2⟩ ⟨m,hm⟩ q
 have stat:∀{H':Hp},(∀b∈fp,H' b=none)->∀b∈fp,gN (cu X scope cl (xn++fv) C fp s3 (upd H2 D (.lst []))) [] H' b:=λhn b hb=>
  ⟨hn b hb,fpC b hb,ok'.exfs b hb,.inl hb,(ok'.exf b hb).2,(λp hp=>by cases hp)⟩
 have loop:∀t',codeAny (model X.prog X.w) X.A (.compLoop (.ListComp elt [⟨tg,iter,ifs,0⟩] scope pos) 0 (.ref it) (.ref D) (compEnvC scope cl C X.env)) (compPost (model X.prog X.w) X.A X.xe use QV (.ref D) C) { s3 with heap:=h₁,toks:=t' }:=λt'=>by
  refine pF (λn s'=>∃(i:Nat) (ys:List V) (H':Hp) (τ:List (Option V)),τ.length=xn.length/\Inv (cu X scope cl (xn++fv) C fp s3 (upd H2 D (.lst []))) [] (τ++bX sub σ) H' s'/\tn i s'.heap/\(∀b∈fp,H' b=none)/\W i n ys H') ?_ m0
   ⟨0,[],_,_,List.length_replicate ..,I4 t',T.keep _ _ _ st2 (λb hb o e=>kept b o (old3 b o e)),λb hb=>by rw [ag (fpD b hb)];exact(f2 b hb).1,w0⟩
  rintro n s5 ⟨i,ys,H5,τ,hτ,I5,st5,fr5,w5⟩
  rcases turn i n ys H5 w5 with⟨stop,q⟩ | ⟨go,NN,hNN,step⟩
  ·refine wpAny_mono (T.done (cu X scope cl (xn++fv) C fp s3 (upd H2 D (.lst []))) rfl rfl rfl rfl i [] s5 _ H5 (λ_ _=>False) I5 (stat fr5) st5 stop) (λr s6 hh=>?_) λ_ _ f=>f.elim
   obtain⟨hr,I6⟩:=hh
   subst hr
   exact back I6 q
  ·refine wpAny_mono (T.item (cu X scope cl (xn++fv) C fp s3 (upd H2 D (.lst []))) rfl rfl rfl rfl i [] s5 _ H5 (λ_ _=>False) I5 (stat fr5) st5 go) (λr s6 hh=>?_) λ_ _ f=>f.elim
   obtain⟨u,hr,h6⟩:=hh
   subst hr
   refine wpAny_mono h6 (λ_ s7 hh=>?_) λ_ _ f=>f.elim
   obtain⟨v,H7,I7,r7,y7,st7,fr7⟩:=hh
   have I7':=I7.pinned (stat fr7) (T.obj _ _ st7)
   refine wpAny_mono (hg C fp s3 _ _ s7 _ H7 v u _ I7' r7 (step v H7 y7 τ hτ)) (λ_ s8 hh=>?_) λ_ _ f=>f.elim
   obtain⟨_,H8,I8,⟨τ',hτ',rfl⟩,step⟩:=hh
   have again:∀{H9:Hp}{s9:Shared}{ys9:List V}{m9:Nat},Inv (cu X scope cl (xn++fv) C fp s3 (upd H2 D (.lst []))) ([]++jy fp s7.heap) (τ'++bX sub σ) H9 s9->m9 < n->W (i+1) m9 ys9 H9->
     ∃m,m < n/\∃(i:Nat) (ys:List V) (H':Hp) (τ:List (Option V)),τ.length=xn.length/\Inv (cu X scope cl (xn++fv) C fp s3 (upd H2 D (.lst []))) [] (τ++bX sub σ) H' s9/\tn i s9.heap/\(∀b∈fp,H' b=none)/\W i m ys H':=λ{H9 s9 ys9 m9} I9 hm w9=>by
    refine⟨m9,hm,i+1,ys9,H9,_,hτ',I9.unpinned,T.keep _ _ _ st7 λb hb o e=>(I9.pin (b,o) (List.mem_append_right _ (List.mem_append_right _ (fb hb e)))).1,λb hb=>?_,w9⟩
    obtain⟨o,e,d⟩:=T.obj _ _ st7 b hb
    exact(I9.pin (b,o) (List.mem_append_right _ (List.mem_append_right _ (fb hb e)))).2.1
   refine wpAny_mono (ht C fp s3 _ _ s8 _ H8 _ I8 step) (λok s9 hh=>?_) λ_ _ f=>f.elim
   obtain⟨H9,I9,q9⟩:=hh
   cases ok with
   | false=>
    rw [if_neg Bool.false_ne_true]at q9 ⊢
    obtain⟨m',hm,w'⟩:=hNN _ _ q9
    exact again I9 hm w'
   | true=>
    rw [if_pos rfl]at q9 ⊢
    refine wpAny_mono (he C fp s3 _ _ s9 _ H9 _ I9 q9) (λxv sa hh=>?_) λ_ _ f=>f.elim
    obtain⟨y,Ha,Ia,ra,hDa,hsz,qa⟩:=hh
    obtain⟨m',hm,w'⟩:=hNN _ _ qa
    refine wpAny_mono (b8 (X:=cu X scope cl (xn++fv) C fp s3 (upd H2 D (.lst []))) _ sa _ Ha (.ref D) [y] (.ref D) [xv] (λ_ H'=>H'=upd Ha D (.lst (ys++[y]))) Ia rfl (.cons ra .nil) ⟨D,ys,y,rfl,rfl,hDa,hsz,rfl⟩) (λ_ sb hh=>?_) λ_ _ f=>f.elim
    obtain⟨_,Hb,Ib,_,rfl⟩:=hh
    exact again Ib hm w'
 exact codeAny_compStart_list (loop _) (T.self X.A 0 _ _ _ (T.keep _ _ _ st2 (λb hb o e=>kept b o (old3 b o e))) (loop _))
theorem nJ {elt iter:Expr}{x:Str}{px pos:Pos}{ifs:List Expr}{scope:Scope}{cl:List (Str × Addr)}{sub:List Nat}{fv:List Str}{wi:TI}{tt:TT}{te:TE}
  (hc:X.calm=true) (hi:PI X (.Name x px) iter wi) (hclos:closureFor scope X.env=pure cl)
  (hcell:∀y∈scope.names,y.2≠.cell) (hkind:scope.kind=.function) (hnames:∀y∈scope.names,y.2=.local->scope.names.lookup y.1=some .local) (hx:scope.names.lookup x=some .local)
  (hnd:(x::fv).Nodup) (hl:sub.length=fv.length) (hsub:∀(j:Nat) (i:Nat) (y:Str),sub[j]?=some i->fv[j]?=some y->X.N[i]?=some y/\Vis X.env.scope y/\X.env.kindOf y≠some .local)
  (hvis:∀y∈fv,(compEnvC scope cl 0 X.env).kindOf y=some .cell\/(compEnvC scope cl 0 X.env).kindOf y=some .free)
  (hcl:∀y c,cl.lookup y=some c->X.env.cells.lookup y=some c) (hcl2:∀y∈fv,cl.lookup y=X.env.cells.lookup y)
  (hhas:∀y,((compEnvC scope cl 0 X.env).kindOf y=some .cell\/(compEnvC scope cl 0 X.env).kindOf y=some .free)->∃c,cl.lookup y=some c)
  (ht:∀C fp s H,PTs (cu X scope cl (x::fv) C fp s H) ifs tt) (he:∀C fp s H,PE (cu X scope cl (x::fv) C fp s H) elt te)
  (hs:∀x,foldedSetIterable iter X.env x=pure x:=by intro _;rfl):PEC X (.ListComp elt [⟨.Name x px,iter,ifs,0⟩] scope pos) iter scope (jf wi sub tt te):=by
 refine kP (xn:=[x]) (g:=aK 0) hc hi hclos hcell hkind hnames hl hsub hvis hcl hcl2 hhas (λC fp s H=>ay (i:=0) hnd rfl (.inl (lookup_relabel_local hx)) (.inr (lookup_relabel_local hx))) ht he (λσ Q J H1 h D nD=>?_) hs
 obtain⟨W,w0,st⟩:=h D nD
 refine⟨W,w0,λi m ys H2 hw=>(st i m ys H2 hw).imp id λ⟨go,N,hN,h⟩=>⟨go,N,hN,λv H3 y τ hτ=>?_⟩⟩
 match τ,hτ with
 | [t0],_=>exact⟨⟨[some v],rfl,rfl⟩,h v H3 y⟩
end
end L2
namespace Strip
section
variable {M:Type} [DecidableEq M]
structure Full (rs:List (Row M)) (a b:Int) (g:Int->M):Prop where
 tidy:Tidy rs
 day:∀n,dayOf rs n=if a<=n/\n<=b then some (g n) else none
theorem Full.row {rs:List (Row M)}{a b:Int}{g:Int->M} (F:Full rs a b g){r:Row M} (hr:r∈rs):a<=r.1/\r.2.1<=b/\∀n,Has r n->g n=r.2.2:=by
 have le:=F.tidy.up.le r hr
 have at':∀n,Has r n->a<=n/\n<=b/\g n=r.2.2:=λn h=>by
  have e:=dayOf_mem F.tidy.up.disj hr h
  rw [F.day]at e
  by_cases z:a<=n/\n<=b
  ·rw [if_pos z]at e;exact⟨z.1,z.2,Option.some.inj e⟩
  ·rw [if_neg z]at e;cases e
 exact⟨(at' r.1 ⟨Int.le_refl _,le⟩).1,(at' r.2.1 ⟨le,Int.le_refl _⟩).2.1,λn h=>(at' n h).2.2⟩
theorem up_lt {rs:List (Row M)} (U:Rising rs){i j:Nat}{r s:Row M} (h:i < j) (e1:rs[i]?=some r) (e2:rs[j]?=some s):r.2.1 < s.1:=by
 have:=List.pairwise_iff_getElem.mp U.lt i j (List.getElem?_eq_some_iff.mp e1).1 (List.getElem?_eq_some_iff.mp e2).1 h
 rw [(List.getElem?_eq_some_iff.mp e1).2,(List.getElem?_eq_some_iff.mp e2).2]at this
 exact this
theorem Full.has {rs:List (Row M)}{a b:Int}{g:Int->M} (F:Full rs a b g){n:Int} (h:a<=n/\n<=b):∃(j:Nat) (r:Row M),rs[j]?=some r/\Has r n:=by
 have e:=F.day n
 rw [if_pos h]at e
 obtain⟨r,hr,q,_⟩:=ff e
 obtain⟨j,hj⟩:=List.getElem?_of_mem hr
 exact⟨j,r,hj,q⟩
theorem Full.first {rs:List (Row M)}{a b:Int}{g:Int->M} (F:Full rs a b g){r:Row M} (e:rs[0]?=some r):r.1=a:=by
 obtain⟨r1,r2,_⟩:=F.row (List.mem_of_getElem? e)
 have le:=F.tidy.up.le r (List.mem_of_getElem? e)
 obtain⟨j,q,ej,hq⟩:=F.has (n:=a) ⟨Int.le_refl _,by omega⟩
 unfold Has at hq
 cases j with
 | zero=>rw [e]at ej;cases ej;omega
 | succ j=>have:=up_lt F.tidy.up (Nat.succ_pos j) e ej;omega
theorem Full.next {rs:List (Row M)}{a b:Int}{g:Int->M} (F:Full rs a b g){i:Nat}{r s:Row M} (e1:rs[i]?=some r) (e2:rs[i+1]?=some s):s.1=r.2.1+1/\r.2.2≠s.2.2:=by
 obtain⟨r1,r2,_⟩:=F.row (List.mem_of_getElem? e1)
 obtain⟨s1,s2,_⟩:=F.row (List.mem_of_getElem? e2)
 have lr:=F.tidy.up.le r (List.mem_of_getElem? e1)
 have ls:=F.tidy.up.le s (List.mem_of_getElem? e2)
 have hlt:=up_lt F.tidy.up (Nat.lt_succ_self i) e1 e2
 have e:s.1=r.2.1+1:=by
  obtain⟨j,q,ej,hq⟩:=F.has (n:=r.2.1+1) ⟨by omega,by omega⟩
  unfold Has at hq
  by_cases h1:j < i
  ·have:=up_lt F.tidy.up h1 ej e1;omega
  ·by_cases h2:j=i
   ·subst h2;rw [e1]at ej;cases ej;omega
   ·by_cases h3:j=i+1
    ·subst h3;rw [e2]at ej;cases ej;omega
    ·have:=up_lt F.tidy.up (show i+1 < j by omega) e2 ej;omega
 exact⟨e,λz=>F.tidy.no i r s e1 e2 ⟨e.symm,z⟩⟩
theorem Full.last {rs:List (Row M)}{a b:Int}{g:Int->M} (F:Full rs a b g){i:Nat}{r:Row M} (e1:rs[i]?=some r) (e2:rs[i+1]?=none):r.2.1=b:=by
 obtain⟨r1,r2,_⟩:=F.row (List.mem_of_getElem? e1)
 have lr:=F.tidy.up.le r (List.mem_of_getElem? e1)
 have hlen:=List.getElem?_eq_none_iff.mp e2
 obtain⟨j,q,ej,hq⟩:=F.has (n:=b) ⟨by omega,Int.le_refl _⟩
 have hj:=(List.getElem?_eq_some_iff.mp ej).1
 unfold Has at hq
 by_cases h1:j < i
 ·have:=up_lt F.tidy.up h1 ej e1;omega
 ·have:j=i:=by omega
  subst this
  rw [e1]at ej;cases ej;omega
theorem Full.some {rs:List (Row M)}{a b:Int}{g:Int->M} (F:Full rs a b g) (h:a<=b):0 < rs.length:=by
 obtain⟨j,q,ej,_⟩:=F.has (n:=a) ⟨Int.le_refl _,h⟩
 have:=(List.getElem?_eq_some_iff.mp ej).1
 omega
structure Part (cs:List (Row M)) (f day:Int) (G:Int->M):Prop where
 tidy:Tidy cs
 day:∀n,dayOf cs n=if f<=n/\n < day then some (G n) else none
theorem Part.nil {f:Int}{G:Int->M}:Part ([]:List (Row M)) f f G:=⟨tidy_nil,λn=>(if_neg ‹1›).symm⟩
theorem Part.put {cs:List (Row M)}{f day e:Int}{G:Int->M}{m:M} (P:Part cs f day G) (h0:f<=day) (h1:day<=e) (hm:∀n,day<=n->n<=e->G n=m) (hn:day=f\/G (day - 1)≠m):Part (cs++[(day,e,m)]) f (e+1) G:=by
 have inr:∀c∈cs,f<=c.1/\c.2.1 < day/\c.2.2=G c.2.1:=λc hc=>by
  have le:=P.tidy.up.le c hc
  have d1:=dayOf_mem P.tidy.up.disj hc (show Has c c.1 from ⟨Int.le_refl _,le⟩)
  have d2:=dayOf_mem P.tidy.up.disj hc (show Has c c.2.1 from ⟨le,Int.le_refl _⟩)
  rw [P.day]at d1 d2
  by_cases z1:f<=c.1/\c.1 < day
  ·by_cases z2:f<=c.2.1/\c.2.1 < day
   ·rw [if_pos z2]at d2
    exact⟨z1.1,z2.2,(Option.some.inj d2).symm⟩
   ·rw [if_neg z2]at d2;cases d2
  ·rw [if_neg z1]at d1;cases d1
 refine⟨P.tidy.snoc h1 (λc hc=>(inr c hc).2.1) λs hs hb=>?_,λn=>?_⟩
 ·have hm':=inr s (List.mem_of_getElem? hs)
  obtain⟨b1,b2⟩:=hb
  have b1:s.2.1+1=day:=b1
  have b2:s.2.2=m:=b2
  have le:=P.tidy.up.le s (List.mem_of_getElem? hs)
  rcases hn with z | z
  ·omega
  ·refine z ?_
   rw [<- b2,hm'.2.2]
   congr 1
   omega
 ·rw [bt,P.day]
  by_cases y:Has ((day,e,m):Row M) n
  ·unfold Has at y
   dsimp only at y
   rw [if_pos (show Has ((day,e,m):Row M) n from y),if_pos ‹1›,hm n y.1 y.2]
  ·rw [if_neg y]
   unfold Has at y
   dsimp only at y
   by_cases x:f<=n/\n < day
   ·rw [if_pos x,if_pos ‹1›]
   ·rw [if_neg x,if_neg ‹1›]
theorem Part.full {cs:List (Row M)}{f l:Int}{G:Int->M} (P:Part cs f (l+1) G):Full cs f l G:=⟨P.tidy,λn=>by
 rw [P.day]
 by_cases x:f<=n/\n<=l
 ·rw [if_pos x,if_pos ‹1›]
 ·rw [if_neg x,if_neg ‹1›]⟩
end
end Strip
namespace L2
open PySem PySem.Spec PyProof.Rows
mutual
inductive DatV (H:Hp):V->PySem.W.Dat->Prop
 | non:DatV H .non .none
 | int (i:Int):DatV H (.int i) (.int i)
 | str (x:Str):DatV H (.str x) (.str x)
 | tup {a:Addr}{xs:List V}{ds:List PySem.W.Dat}:H a=some (.tup xs)->DatVs H xs ds->DatV H (.ref a) (.tuple ds)
 | lst {a:Addr}{xs:List V}{ds:List PySem.W.Dat}:H a=some (.lst xs)->DatVs H xs ds->DatV H (.ref a) (.list ds)
inductive DatVs (H:Hp):List V->List PySem.W.Dat->Prop
 | nil:DatVs H [] []
 | cons {x:V}{d:PySem.W.Dat}{xs:List V}{ds:List PySem.W.Dat}:DatV H x d->DatVs H xs ds->DatVs H (x::xs) (d::ds)
end
section
variable {X:Cx}{pins:List (Addr × Obj)}{σ:St}{H:Hp}{s:Shared}
mutual
theorem dQ (I:Inv X pins σ H s):∀{x:V}{d:PySem.W.Dat}{u:Value},DatV H x d->aP x u->∃as,Reads s.heap u (PySem.W.kqdP d) as
 | _,_,u,.non,r=>by cases (show u=Value.none from r);rw [PySem.W.kqdP];exact⟨_,.none⟩
 | _,_,u,.int i,r=>by obtain⟨t,e⟩:=(show ∃t,u=Value.int i t from r);subst e;rw [PySem.W.kqdP];exact⟨_,.int i t⟩
 | _,_,u,.str x,r=>by obtain⟨t,e⟩:=(show ∃t,u=Value.str x t from r);subst e;rw [PySem.W.kqdP];exact⟨_,.str x t⟩
 | _,_,u,.tup (a:=a) e t,r=>by
  cases (show u=Value.ref a from r)
  obtain⟨_,its,rv,o,e1,e2,n,e3⟩:=(show br X.prog X.w H s.heap a (.tup _) from I.hok a _ e)
  obtain⟨as,q⟩:=fH I t rv
  rw [PySem.W.kqdP]
  exact⟨as,reads_tuple_at e1 e2 e3 (by simpa using q)⟩
 | _,_,u,.lst (a:=a) e t,r=>by
  cases (show u=Value.ref a from r)
  obtain⟨_,its,n,rv,e1⟩:=(show br X.prog X.w H s.heap a (.lst _) from I.hok a _ e)
  obtain⟨as,q⟩:=fH I t rv
  rw [PySem.W.kqdP]
  exact⟨_,reads_list_at e1 rfl rfl (by simpa using q)⟩
theorem fH (I:Inv X pins σ H s):∀{xs:List V}{ds:List PySem.W.Dat}{us:List Value},DatVs H xs ds->aJ xs us->∃as,ReadsAll s.heap us (PySem.W.kqdPs ds) as
 | _,_,_,.nil,.nil=>by rw [PySem.W.kqdPs];exact⟨_,.nil⟩
 | _,_,_,.cons d t,.cons r rt=>by
  obtain⟨as,q⟩:=dQ I d r
  obtain⟨bs,p⟩:=fH I t rt
  rw [PySem.W.kqdPs]
  exact⟨_,.cons q p⟩
end
end
section
variable {X:Cx}
inductive ma (neg:Bool) (x:V) (y:V) (H:Hp) (Q:VK):Prop
 | mk (d e) (h1:DatV H x d) (h2:DatV H y e) (h3:PySem.W.kqdOk 9 d=true) (h4:PySem.W.kqdOk 9 e=true) (h5:∃k:Bool,(k=true↔d=e)/\Q (.bl (if neg then !k else k)) H):ma neg x y H Q
theorem eU {d:PySem.W.Dat} (h:PySem.W.kqdOk 9 d=true):SeqAt.shaped (PySem.W.kqdP d)=true:=by
 have la:=PySem.W.kqd_lay 9 d h
 unfold SeqAt.shaped
 rw [la.1,Bool.true_and]
 exact decide_eq_true (Nat.le_trans la.2 (by decide))
theorem qH {d e:PySem.W.Dat} (h1:PySem.W.kqdOk 9 d=true) (h2:PySem.W.kqdOk 9 e=true){k:Bool} (hk:k=true↔d=e):PyData.eqv (PySem.W.kqdP d) (PySem.W.kqdP e)=k:=by
 have q:=PySem.W.kqd_eqv 9 d e 9 h1 h2
 cases k with
 | true=>exact q.mpr (hk.mp rfl)
 | false=>exact Bool.eq_false_iff.mpr λx=>by have:=hk.mpr (q.mp x);cases this
theorem jB (hu:X.A.units+64 < cLine):OpR X (compareOp .Eq) (ma false):=by
 intro pins s σ H x y v u Q I r1 r2 h
 obtain⟨d,e,hd,he,kd,ke,k,hk,q⟩:=h
 obtain⟨as,ra⟩:=dQ I hd r1
 obtain⟨bs,rb⟩:=dQ I he r2
 refine eq_dataH ra rb (eU kd) (eU ke) hu ?_
 rw [qH kd ke hk]
 exact⟨.bl k,H,I,rfl,q⟩
theorem nM (hu:X.A.units+64 < cLine):OpR X (compareOp .NotEq) (ma true):=by
 intro pins s σ H x y v u Q I r1 r2 h
 obtain⟨d,e,hd,he,kd,ke,k,hk,q⟩:=h
 obtain⟨as,ra⟩:=dQ I hd r1
 obtain⟨bs,rb⟩:=dQ I he r2
 refine ne_dataH ra rb (eU kd) (eU ke) hu ?_
 rw [qH kd ke hk]
 exact⟨.bl (!k),H,I,rfl,q⟩
end
theorem bJ {H:Hp}:∀{x:V},bF x->DatV H x (eR x)
 | .non,_=>.non
 | .int i,_=>.int i
theorem fW (n:Nat):∀{x:V},bF x->PySem.W.kqdOk n (eR x)=true
 | .non,_=>by cases n <;> rfl
 | .int i,_=>by cases n <;> rfl
noncomputable abbrev eA:=Int × Int × V × V
def qR (r:eA):Prop:=bF r.2.2.1/\bF r.2.2.2
noncomputable def qY (r:eA):List V:=[.int r.1,.int r.2.1,r.2.2.1,r.2.2.2]
def iR (H:Hp) (ps:List Addr) (rs:List eA):Prop:=Paired (λp r=>H p=some (.tup (qY r))/\qR r) ps rs
def lC (H:Hp) (a:Addr) (rs:List eA):Prop:=∃ps,H a=some (.lst (ps.map V.ref))/\iR H ps rs
theorem kM {H:Hp}{ps:List Addr}{rs:List eA} (h:iR H ps rs):ps.length=rs.length:=Paired.length h
theorem jt {H:Hp}{p:Addr}{r:eA} (hp:H p=some (.tup (qY r))) (hm:qR r):∀{ps:List Addr}{rs:List eA},iR H ps rs->iR H (ps++[p]) (rs++[r])
 | _,_,.nil=>.cons ⟨hp,hm⟩ .nil
 | _,_,.cons a t=>.cons a (jt hp hm t)
theorem gz {H H':Hp}:∀{ps:List Addr}{rs:List eA},iR H ps rs->(∀p xs,H p=some (.tup xs)->H' p=some (.tup xs))->iR H' ps rs
 | _,_,.nil,_=>.nil
 | _,_,.cons a t,k=>.cons ⟨k _ _ a.1,a.2⟩ (gz t k)
theorem rE {H:Hp}{ps:List Addr}{rs:List eA} (h:iR H ps rs){i:Nat}{p:Addr} (e:ps[i]?=some p):∃r,rs[i]?=some r/\H p=some (.tup (qY r))/\qR r:=c9 h e
theorem Go.rowsW {T:Addr}{pos:Pos}{q:Str}{H H':Hp} (G:Go T pos q H H') (L:dI T pos q H){a:Addr}{rs:List eA} (h:lC H a rs):lC H' a rs:=by
 obtain⟨ps,e,r⟩:=h
 exact⟨ps,G.lst L e,gz r λ_ _ e=>G.tup L e⟩
theorem rF {H:Hp}{st p:Addr}{as:List Addr}{acc:List eA}{r:eA} (hst:H st=some (.lst (as.map V.ref))) (hrs:iR H as acc) (np:H p=none) (hm:qR r) :
  lC (upd (upd H p (.tup (qY r))) st (.lst (as.map V.ref++[V.ref p]))) st (acc++[r])/\∀b o,b≠st->H b=some o->upd (upd H p (.tup (qY r))) st (.lst (as.map V.ref++[V.ref p])) b=some o:=by
 have ps:p≠st:=λz=>by rw [z,hst]at np;cases np
 have keep:∀b o,b≠st->H b=some o->upd (upd H p (.tup (qY r))) st (.lst (as.map V.ref++[V.ref p])) b=some o:=λb o n e=>by
  rw [ag n,ag (af e np)];exact e
 refine⟨⟨as++[p],?_,jt ?_ hm (gz hrs λb xs e=>keep b _ (aD e hst (by intro z;cases z)) e)⟩,keep⟩
 ·rw [ae,List.map_append];rfl
 ·rw [ag ps,ae]
theorem iD {K:W.Frag}{a D:Addr}{xs:List V}{σ:St}{sub:List Nat}{tt:TT}{te:TE}{Q:VK}{H:Hp} (Pv:Nat->List V->Hp->Prop) (h0:Pv 0 [] (upd H D (.lst []))) (hl:∀i ys H,i<=xs.length->Pv i ys H->SqL K H a xs)
  (hs:∀i x ys H,xs[i]?=some x->Pv i ys H->tt (some x::bX sub σ) H λb H4=>if b=true then te (some x::bX sub σ) H4 λy H5=>H5 D=some (.lst ys)/\ys.length < sizeLine/\Pv (i+1) (ys++[y]) (upd H5 D (.lst (ys++[y]))) else Pv (i+1) ys H4)
  (hd:∀ys H,Pv xs.length ys H->Q (.ref D) H) :
  ∃W:Nat->Nat->List V->Hp->Prop,(∃m,W 0 m [] (upd H D (.lst [])))/\∀i m ys H2,W i m ys H2->
   ((Itl K a).stop i H2/\Q (.ref D) H2)\/((Itl K a).go i H2/\∃N:List V->Hp->Prop,(∀ys' H',N ys' H'->∃m',m' < m/\W (i+1) m' ys' H')/\∀v H3,(Itl K a).yld i H2 v H3->tt (some v::bX sub σ) H3 λb H4=>if b=true then
    te (some v::bX sub σ) H4 λy H5=>H5 D=some (.lst ys)/\ys.length < sizeLine/\N (ys++[y]) (upd H5 D (.lst (ys++[y])))
    else N ys H4):=by
 refine⟨λi m ys H=>m=xs.length - i/\i<=xs.length/\Pv i ys H,⟨xs.length,rfl,Nat.zero_le _,h0⟩,?_⟩
 rintro i m ys H ⟨rfl,hi,p⟩
 have q:=hl i ys H hi p
 by_cases hlt:i < xs.length
 ·refine .inr ⟨⟨xs,xs[i],q,by simp [hlt]⟩,Pv (i+1),λys' H' p'=>⟨xs.length - (i+1),by omega,rfl,hlt,p'⟩,λx H' y=>?_⟩
  obtain⟨e,y⟩:=y
  subst e
  exact hs i x ys _ (y xs q) p
 ·have e:i=xs.length:=by omega
  subst e
  exact .inl ⟨⟨xs,q,Nat.le_refl _⟩,hd ys H p⟩
section
variable {X:Cx}
theorem oC:SlR X (λx lo hi H Q=>∃z,x=.str z/\z.length<=sizeLine/\Q (.str (Txt.slice z lo hi)) H):=by
 intro pins s σ H x v vl vu lo hi sl Q I rx hs pl pu h
 obtain⟨z,rfl,hz,q⟩:=h
 obtain⟨t,rfl⟩:=rx
 refine⟨"str", _,slot_str_getitem.lookup,typeIs_str s z t,?_⟩
 have fin:∀l u:Option (Int × Tok),vl=partValue l->vu=partValue u->l.map (·.1)=lo->u.map (·.1)=hi->
   wpAny (model X.prog X.w) X.A (getItem (.str z t) (.ref sl)) (EP X pins σ Q) X.xe s:=λl u e1 e2 e3 e4=>by
  subst e1 e2 e3 e4
  refine wpAny_getItem_str_slice (l:=l) (u:=u) (st:=none) hs rfl ?_
  have q2:∀t',EP X pins σ Q (.str (Txt.slice z (l.map (·.1)) (u.map (·.1))) t') s:=λt'=>⟨.str _,H,I,⟨t',rfl⟩,q⟩
  unfold sliceMade
  unfold Txt.slice at q2
  unfold Txt.slice at q
  by_cases c:((((none:Option (Int × Tok)).map (·.1)).getD 1:Int) == 1 && (slicePicked z l u none).length == z.length)=true
  ·rw [if_pos c]
   rw [if_pos (show ((1:Int) == 1 && (Builtin.Str.strSliceIndices (l.map (·.1)) (u.map (·.1)) 1 z.length).length == z.length)=true from c)]at q2
   exact q2 t
  ·rw [if_neg c]
   rw [if_neg (show ¬((1:Int) == 1 && (Builtin.Str.strSliceIndices (l.map (·.1)) (u.map (·.1)) 1 z.length).length == z.length)=true from c)]at q
   refine⟨?_,⟨.str _,H,I.tok _,⟨_,rfl⟩,q⟩⟩
   have hle:=Txt.slice_le z (l.map (·.1)) (u.map (·.1))
   unfold Txt.slice at hle
   rw [if_neg (show ¬((1:Int) == 1 && (Builtin.Str.strSliceIndices (l.map (·.1)) (u.map (·.1)) 1 z.length).length == z.length)=true from c)]at hle
   exact Nat.le_trans hle hz
 cases pl with
 | none=>cases pu with
  | none=>exact fin none none rfl rfl rfl rfl
  | int j tj=>exact fin none (some (j,tj)) rfl rfl rfl rfl
 | int i ti=>cases pu with
  | none=>exact fin (some (i,ti)) none rfl rfl rfl rfl
  | int j tj=>exact fin (some (i,ti)) (some (j,tj)) rfl rfl rfl rfl
noncomputable def Its (x:Str):It:=⟨λi _=>i < x.cps.size,λi H v H'=>H'=H/\∃c,x.cps[i]?=some c/\v=.str ⟨#[c]⟩,λi _=>x.cps.size<=i⟩
theorem om {P:Program}{w:World}{K:W.Frag}{tg:Expr} (x:Str) (t:Tok) (it:Addr):Turn P w K tg (Its x) [it] it (λi h=>h.IsStrIter it "str_ascii_iterator" x t i) where
 mem:=by simp
 obj:=λi h st b hb=>by
  have e:b=it:=by simpa using hb
  subst e
  obtain⟨o,e,c,d⟩:=st
  exact⟨o,e,λv z=>by rw [d]at z;cases z⟩
 keep:=λi h h' st k=>let ⟨o,ho,r⟩:=st;⟨o,k it (by simp) o ho,r⟩
 item:=by
  intro X hP hw hK hc i pins s σ H E I hf st hg
  subst hP hw hK
  have hg:i < x.cps.size:=hg
  obtain⟨f0,f1,f2,f3,f4,f5⟩:=hf it (by simp)
  refine wpAny_pyNext_ascii_item st (c:=x.cps[i]) (by simp [hg]) λh' st' sb=>?_
  have I1:Inv X pins σ H { s with heap:=h',toks:=s.toks+1 }:=I.turned (λb o hb e=>(sb.2 b hb).trans e) f0 f1 f3 f4 f5
  obtain⟨o,e,c,d⟩:=id st'
  exact⟨_,rfl,nX (s:={ s with heap:=h',toks:=s.toks+1 }) e c d (by decide) ⟨.str ⟨#[x.cps[i]]⟩,H,I1,⟨_,rfl⟩,⟨rfl,_,by simp [hg],rfl⟩,st',λb hb=>(hf b hb).1⟩⟩
 done:=by
  intro X hP hw hK hc i pins s σ H E I hf st hg
  subst hP hw hK
  have hg:x.cps.size<=i:=hg
  obtain⟨f0,f1,f2,f3,f4,f5⟩:=hf it (by simp)
  exact wpAny_pyNext_ascii_end (I.ok.hd hc) st (by simp;omega) λh' eb=>⟨rfl,I.turned (t':=s.toks) (λb o hb e=>eb b o hb e) f0 f1 f3 f4 f5⟩
 self:=λ_ _ _ _ _ st h=>wpAny_pyIter_striter_ascii st h
theorem qV {P:Program}{w:World}{K:W.Frag}{tg:Expr} (x:Str) (t:Tok) (it:Addr):Turn P w K tg (Its x) [it] it (λi h=>h.IsStrIter it "str_iterator" x t i) where
 mem:=by simp
 obj:=λi h st b hb=>by
  have e:b=it:=by simpa using hb
  subst e
  obtain⟨o,e,c,d⟩:=st
  exact⟨o,e,λv z=>by rw [d]at z;cases z⟩
 keep:=λi h h' st k=>let ⟨o,ho,r⟩:=st;⟨o,k it (by simp) o ho,r⟩
 item:=by
  intro X hP hw hK hc i pins s σ H E I hf st hg
  subst hP hw hK
  have hg:i < x.cps.size:=hg
  obtain⟨f0,f1,f2,f3,f4,f5⟩:=hf it (by simp)
  refine wpAny_pyNext_wide_item st (c:=x.cps[i]) (by simp [hg]) λh' st' sb=>?_
  have I1:Inv X pins σ H { s with heap:=h',toks:=s.toks+1 }:=I.turned (λb o hb e=>(sb.2 b hb).trans e) f0 f1 f3 f4 f5
  obtain⟨o,e,c,d⟩:=id st'
  exact⟨_,rfl,nX (s:={ s with heap:=h',toks:=s.toks+1 }) e c d (by decide) ⟨.str ⟨#[x.cps[i]]⟩,H,I1,⟨_,rfl⟩,⟨rfl,_,by simp [hg],rfl⟩,st',λb hb=>(hf b hb).1⟩⟩
 done:=by
  intro X hP hw hK hc i pins s σ H E I hf st hg
  subst hP hw hK
  have hg:x.cps.size<=i:=hg
  obtain⟨f0,f1,f2,f3,f4,f5⟩:=hf it (by simp)
  exact wpAny_pyNext_wide_end (I.ok.hd hc) st (by simp;omega) λh' eb=>⟨rfl,I.turned (t':=s.toks) (λb o hb e=>eb b o hb e) f0 f1 f3 f4 f5⟩
 self:=λ_ _ _ _ _ st h=>wpAny_pyIter_striter_wide st h
noncomputable def AH (tl:TE):TI:=λσ H R=>tl σ H λv H1=>∃x,v=.str x/\R (Its x) H1
theorem yS {tg l:Expr}{tl:TE} (hl:PE X l tl):PI X tg l (AH tl):=by
 intro pins s σ H R I h
 refine thn (hl pins s σ H _ I h) λv s1 ⟨y,H1,I1,r1,q1⟩=>?_
 obtain⟨x,e,q⟩:=q1
 subst e
 obtain⟨t,rfl⟩:=r1
 have fp:∀b∈[s1.heap.objs.size],gN X pins H1 b:=λb hb=>by
  have e:b=s1.heap.objs.size:=by simpa using hb
  subst e
  exact I1.fpOk (Nat.le_refl _) (I1.hok.fresh (Nat.le_refl _))
 cases ha:x.cps.all (· < 128)
 ·refine wpAny_pyIter_wide ha ?_
  exact⟨s1.heap.objs.size,[s1.heap.objs.size],_,_,H1,rfl,I1.kept (t':=s1.toks) λb o e=>zH0 _ e,qV x t _,⟨_,Heap.get?_push_size _ rfl,rfl,rfl⟩,fp,q⟩
 ·refine wpAny_pyIter_ascii ha ?_
  exact⟨s1.heap.objs.size,[s1.heap.objs.size],_,_,H1,rfl,I1.kept (t':=s1.toks) λb o e=>zH0 _ e,om x t _,⟨_,Heap.get?_push_size _ rfl,rfl,rfl⟩,fp,q⟩
theorem vL {x:Str}{D:Addr}{σ:St}{sub:List Nat}{tt:TT}{te:TE}{Q:VK}{H:Hp} (Pv:Nat->List V->Hp->Prop) (h0:Pv 0 [] (upd H D (.lst [])))
  (hs:∀i c ys H,x.cps[i]?=some c->Pv i ys H->tt (some (.str ⟨#[c]⟩)::bX sub σ) H λb H4=>if b=true then te (some (.str ⟨#[c]⟩)::bX sub σ) H4 λy H5=>H5 D=some (.lst ys)/\ys.length < sizeLine/\Pv (i+1) (ys++[y]) (upd H5 D (.lst (ys++[y]))) else Pv (i+1) ys H4)
  (hd:∀ys H,Pv x.cps.size ys H->Q (.ref D) H) :
  ∃W:Nat->Nat->List V->Hp->Prop,(∃m,W 0 m [] (upd H D (.lst [])))/\∀i m ys H2,W i m ys H2->
   ((Its x).stop i H2/\Q (.ref D) H2)\/((Its x).go i H2/\∃N:List V->Hp->Prop,(∀ys' H',N ys' H'->∃m',m' < m/\W (i+1) m' ys' H')/\∀v H3,(Its x).yld i H2 v H3->tt (some v::bX sub σ) H3 λb H4=>if b=true then
    te (some v::bX sub σ) H4 λy H5=>H5 D=some (.lst ys)/\ys.length < sizeLine/\N (ys++[y]) (upd H5 D (.lst (ys++[y])))
    else N ys H4):=by
 refine⟨λi m ys H=>m=x.cps.size - i/\i<=x.cps.size/\Pv i ys H,⟨_,rfl,Nat.zero_le _,h0⟩,?_⟩
 rintro i m ys H ⟨rfl,hi,p⟩
 by_cases hlt:i < x.cps.size
 ·refine .inr ⟨hlt,Pv (i+1),λys' H' p'=>⟨_,by omega,rfl,hlt,p'⟩,λv H' y=>?_⟩
  obtain⟨rfl,c,ec,rfl⟩:=y
  exact hs i c ys _ ec p
 ·have e:i=x.cps.size:=by omega
  subst e
  exact .inl ⟨Nat.le_refl _,hd ys H p⟩
end
section
variable {X:Cx}
theorem lw (hc:X.calm=true):eF X (.builtin "all") (λxs H Q=>∃(a:Addr) (bs:List Bool),xs=[.ref a]/\SqL X.K H a (bs.map V.bl)/\Q (.bl (bs.all id)) H):=by
 intro pins s σ H xs us Q I r h
 obtain⟨a,bs,rfl,hS,q⟩:=h
 obtain⟨u,rfl,ru⟩:=gP r
 cases (show u=Value.ref a from ru)
 obtain⟨its,rv,p,hz⟩:=I.list hS
 have hlen:=rv.length
 rw [List.length_map]at hlen
 have hne:a≠s.heap.objs.size:=λz=>by
  obtain⟨o,e,_⟩:=p.isList
  exact Nat.lt_irrefl _ (z ▸ Heap.lt_size e)
 obtain⟨f0,f1,f2,f3,f4,f5⟩:=I.fpOk (Nat.le_refl _) (I.hok.fresh (Nat.le_refl _))
 refine call_all_walk (wpAny_pyIter_list p.isList ?_)
 have I1:=λo=>I.kept (h':=s.heap.push o) (t':=s.toks) λb ob e=>zH0 _ e
 refine⟨s.heap.objs.size,_,_,_,_,_,λi=>bs.getD i false,rfl,Walks.list (A:=X.A.in1) (I.ok.hd hc) _ a hne its.toArray,⟨⟨_,Heap.get?_push_size _ rfl,rfl,rfl⟩,p.isList.at λo e=>zH0 _ e⟩,?_,λh' tk hk=>?_⟩
 ·intro i v s' Q' E' hv hQ
  have hv:its[i]?=some v:=by simpa using hv
  have hi:i < bs.length:=by rw [hlen];exact(List.getElem?_eq_some_iff.mp hv).1
  obtain⟨u',hu,ru'⟩:=rv.get (i:=i) (x:=V.bl bs[i]) (by rw [List.getElem?_map,List.getElem?_eq_getElem hi];rfl)
  rw [hv]at hu
  cases hu
  cases (show v=Value.bool bs[i] from ru')
  have e:bs.getD i false=bs[i]:=by rw [List.getD_eq_getElem?_getD,List.getElem?_eq_getElem hi];rfl
  have hQ:Q' (bs.getD i false) s':=hQ
  rw [e]at hQ
  exact wpAny_truthy_bool hQ
 ·refine⟨.bl _,H,(I1 _).turned (t':=tk) (λb o hb e=>hk b o (by simpa using hb) e) f0 f1 f3 f4 f5,rfl,?_⟩
  have e:(List.range its.toArray.size).all (λi=>bs.getD i false)=bs.all id:=by
   rw [List.size_toArray,<- hlen]
   rw [Bool.eq_iff_iff,List.all_eq_true,List.all_eq_true]
   constructor
   ·intro h b hb
    obtain⟨i,hi,rfl⟩:=List.getElem_of_mem hb
    have:=h i (List.mem_range.mpr hi)
    rw [List.getD_eq_getElem?_getD,List.getElem?_eq_getElem hi]at this
    exact this
   ·intro h i hi
    have hi:=List.mem_range.mp hi
    rw [List.getD_eq_getElem?_getD,List.getElem?_eq_getElem hi]
    exact h _ (List.getElem_mem hi)
  rw [e]
  exact q
theorem eQ {α:Type}:∀{l:List (Str × α)}{z:Str}{k:α},l.lookup z=some k->∃p∈l,z=p.1/\p.2=k
 | [],_,_,e=>by cases e
 | (n,k')::r,z,k,e=>by
  rw [List.lookup_cons]at e
  split at e
  ·rename_i h
   cases e
   exact⟨(n,k'),List.mem_cons_self,eq_of_beq h,rfl⟩
  ·obtain⟨p,hp,q⟩:=eQ e
   exact⟨p,List.mem_cons_of_mem _ hp,q⟩
theorem uz {elt iter:Expr}{x y:Str}{c:Addr}{i:Nat}{px pos:Pos}{ifs:List Expr}{scope:Scope}{wi:TI}{tt:TT}{te:TE}
  (hc:X.calm=true) (hi:PI X (.Name x px) iter wi) (hclos:closureFor scope X.env=pure [(y,c)]) (hkind:scope.kind=.function)
  (hall:∀p∈scope.names,p.2=.local\/(p.1=y/\p.2=.free)) (hnames:∀p∈scope.names,p.2=.local->scope.names.lookup p.1=some .local) (hx:scope.names.lookup x=some .local)
  (hxy:x≠y) (hN:X.N[i]?=some y) (hv:Vis X.env.scope y) (hk:X.env.kindOf y≠some .local)
  (hvis:(compEnvC scope [(y,c)] 0 X.env).kindOf y=some .cell\/(compEnvC scope [(y,c)] 0 X.env).kindOf y=some .free) (hcy:X.env.cells.lookup y=some c)
  (ht:∀C fp s H,PTs (cu X scope [(y,c)] [x,y] C fp s H) ifs tt) (he:∀C fp s H,PE (cu X scope [(y,c)] [x,y] C fp s H) elt te)
  (hs:∀x,foldedSetIterable iter X.env x=pure x:=by intro _;rfl):PE X (.ListComp elt [⟨.Name x px,iter,ifs,0⟩] scope pos) (jf wi [i] tt te):=by
 have one:∀{z c'},[(y,c)].lookup z=some c'->z=y/\c'=c:=λ{z c'} e=>by
  obtain⟨p,hp,e1,e2⟩:=eQ e
  cases List.mem_singleton.mp hp
  exact⟨e1,e2.symm⟩
 have self:[(y,c)].lookup y=some c:=by rw [List.lookup_cons];simp
 refine kQ ?_
 refine nJ (cl:=[(y,c)]) (fv:=[y]) hc hi hclos (λp hp z=>?_) hkind hnames hx ?_ rfl (λj k z e1 e2=>?_) (λz hz=>?_) (λz c' e=>?_) (λz hz=>?_) (λz hz=>?_) ht he hs
 ·rcases hall p hp with q | ⟨_,q⟩ <;> rw [q]at z <;> cases z
 ·exact List.nodup_cons.mpr ⟨λh=>hxy (List.mem_singleton.mp h),List.nodup_cons.mpr ⟨(λh=>nomatch h),List.nodup_nil⟩⟩
 ·cases j with
  | zero=>cases e1;cases e2;exact⟨hN,hv,hk⟩
  | succ j=>cases e1
 ·cases List.mem_singleton.mp hz
  exact hvis
 ·obtain⟨rfl,rfl⟩:=one e
  exact hcy
 ·cases List.mem_singleton.mp hz
  rw [self,hcy]
 ·have far:∀k,(k=.cell\/k=.free)->(compEnvC scope [(y,c)] 0 X.env).kindOf z=some k->∃c',[(y,c)].lookup z=some c':=λk hkk e=>by
   obtain⟨p,hp,e1,e2⟩:=eQ (show (scope.names.map _).lookup z=some k from e)
   obtain⟨⟨n,kk⟩,hq,rfl⟩:=List.mem_map.mp hp
   rcases hall _ hq with q | ⟨q,_⟩
   ·have q:kk=.local:=q
    subst q
    have e2:NameKind.local=k:=e2
    rcases hkk with r | r <;> rw [r]at e2 <;> cases e2
   ·have q:n=y:=q
    subst q
    refine⟨c,?_⟩
    have:z=n:=by
     rw [e1]
     dsimp only
     split <;> rfl
    rw [this]
    exact self
  rcases hz with e | e
  ·exact far _ (.inl rfl) e
  ·exact far _ (.inr rfl) e
end
noncomputable def zE (to tl th:TE):TG:=λv σ H Q=>to σ H λo H1=>tl σ H1 λa H2=>th σ H2 λc H3=>∃(l b:Addr) (xs ys:List V) (i j:Int),o=.ref l/\v=.ref b/\a=.int i/\c=.int j/\H3 l=some (.lst xs)/\H3 b=some (.lst ys)/\l≠b/\
 0<=i/\i<=j/\j<=xs.length/\xs.length+ys.length<=sizeLine/\Q σ (upd H3 l (.lst (xs.take i.toNat++ys++xs.drop j.toNat)))
theorem uu {X:Cx}{o lo hi:Expr}{to tl th:TE}{pos p2:Pos} (ho:PE X o to) (hl:PE X lo tl) (hh:PE X hi th)
  (ha:∀v,assign (.Subscript o (.Slice (some lo) (some hi) none p2) pos) X.env v=(do
   let ov <- holding [v] (eval o X.env)
   let iv <- holding [v,ov] (eval (.Slice (some lo) (some hi) none p2) X.env)
   standAt pos
   holding [v,ov,iv] (setItem ov iv v)
   release [iv,v,ov] []):=by intro _;rfl):PG X (.Subscript o (.Slice (some lo) (some hi) none p2) pos) (zE to tl th):=by
 intro pins s σ H v u Q I r h
 rw [ha]
 refine zB0 (wpAny_holding (thn (ho pins s σ H _ I h) λov s1 ⟨x,H1,I1,r1,q1⟩=>?_))
 refine zB0 (wpAny_holding (wpAny_Slice ?_))
 rw [evalPart_some]
 refine thn (hl pins s1 σ H1 _ I1 q1) λvl s2 ⟨a,H2,I2,r2,q2⟩=>?_
 rw [evalPart_some]
 refine thn (hh pins s2 σ H2 _ I2 q2) λvu s3 ⟨c,H3,I3,r3,q3⟩=>?_
 rw [evalPart_none]
 refine zP0 ?_
 obtain⟨l,b,xs,ys,i,j,rfl,rfl,rfl,rfl,hl1,hb1,ne,h0,hij,hj,hz,q⟩:=q3
 cases r1
 cases r
 have I4:Inv X pins σ H3 { s3 with heap:=s3.heap.push { cls:=.type "slice", data:=.fields #[vl,vu,.none] } }:=I3.kept (t':=s3.toks) λb ob q=>zH0 _ q
 refine zB0 (wpAny_standAt (zB0 (wpAny_holding ?_)))
 refine rh I4 hl1 hb1 ne (Heap.IsSliceOf.new ..) r2 r3 h0 hij hj hz λs4 I5=>?_
 exact wpAny_release ⟨σ,_,I5,q⟩
end L2
namespace Strip
section
variable {M:Type} [DecidableEq M]
noncomputable def holeG (rs:List (Row M)) (f l:Int):Int->Option M:=λn=>if f<=n/\n<=l then none else dayOf rs n
theorem hole_start {f l:Int}:DG ([]:List (Row M)) (holeG [] f l):=DG.nil.eq λn=>by unfold holeG;split <;> rfl
noncomputable def midH (rs:List (Row M)) (f l:Int) (r:Row M):Int->Option M:=λn=>if Has r n/\n < f then some r.2.2 else holeG rs f l n
theorem hole_left {rs cs:List (Row M)}{f l:Int}{i:Nat}{r:Row M} (d:Disj rs) (e:rs[i]?=some r) (h:r.1 < f){b:Int} (hb:b=if f - 1 < r.2.1 then f - 1 else r.2.1) (D:DG cs (holeG (rs.take i) f l)) :
  DG (cs++[(r.1,b,r.2.2)]) (midH (rs.take i) f l r)/\b<=r.2.1:=by
 have hr:=d.le r (List.mem_of_getElem? e)
 have b1:b<=f - 1/\b<=r.2.1/\(b=f - 1\/b=r.2.1):=by rw [hb];split <;> omega
 refine⟨(D.put (c:=(r.1,b,r.2.2)) (by show r.1<=b;omega) λn hn=>?_).eq λn=>?_,b1.2.1⟩
 ·unfold Has at hn
  dsimp only at hn
  unfold holeG
  rw [if_neg ‹1›]
  exact d.ahead e ⟨by omega,by omega⟩
 ·unfold midH
  by_cases y:Has r n/\n < f
  ·rw [if_pos y,if_pos]
   unfold Has at y ⊢
   dsimp only
   omega
  ·rw [if_neg y,if_neg]
   unfold Has at y ⊢
   dsimp only
   omega
theorem hole_noLeft {rs cs:List (Row M)}{f l:Int}{i:Nat}{r:Row M} (h:¬r.1 < f) (D:DG cs (holeG (rs.take i) f l)):DG cs (midH (rs.take i) f l r):=D.eq λn=>by
 unfold midH
 rw [if_neg]
 unfold Has
 omega
theorem hole_right {rs cs:List (Row M)}{f l:Int}{i:Nat}{r:Row M} (d:Disj rs) (e:rs[i]?=some r) (hfl:f<=l) (h:l < r.2.1){a:Int} (ha:a=if l+1 > r.1 then l+1 else r.1) (D:DG cs (midH (rs.take i) f l r)) :
  DG (cs++[(a,r.2.1,r.2.2)]) (holeG (rs.take (i+1)) f l)/\r.1<=a:=by
 have hr:=d.le r (List.mem_of_getElem? e)
 have a1:l+1<=a/\r.1<=a/\(a=l+1\/a=r.1):=by rw [ha];split <;> omega
 refine⟨(D.put (c:=(a,r.2.1,r.2.2)) (by show a<=r.2.1;omega) λn hn=>?_).eq λn=>?_,a1.2.1⟩
 ·unfold Has at hn
  dsimp only at hn
  unfold midH
  rw [if_neg ‹1›]
  unfold holeG
  rw [if_neg ‹1›]
  exact d.ahead e ⟨by omega,by omega⟩
 ·unfold midH holeG
  rw [take_snoc e,bt]
  by_cases z:f<=n/\n<=l
  ·rw [if_neg (by unfold Has;dsimp only;omega),if_neg ‹1›,if_pos z,if_pos z]
  ·rw [if_neg z,if_neg z]
   by_cases y:Has r n
   ·rw [if_pos y]
    by_cases x:n < f
    ·rw [if_neg (by unfold Has;dsimp only;omega),if_pos ⟨y,x⟩]
    ·rw [if_pos (by unfold Has at y ⊢;dsimp only;omega)]
   ·rw [if_neg y,if_neg (by unfold Has at y ⊢;dsimp only;omega),if_neg (λq=>y q.1)]
theorem hole_noRight {rs cs:List (Row M)}{f l:Int}{i:Nat}{r:Row M} (e:rs[i]?=some r) (h:¬l < r.2.1) (D:DG cs (midH (rs.take i) f l r)):DG cs (holeG (rs.take (i+1)) f l):=D.eq λn=>by
 unfold midH holeG
 rw [take_snoc e,bt]
 by_cases z:f<=n/\n<=l
 ·rw [if_neg ‹1›,if_pos z,if_pos z]
 ·rw [if_neg z,if_neg z]
  by_cases y:Has r n
  ·rw [if_pos y,if_pos]
   refine⟨y,?_⟩
   unfold Has at y
   omega
  ·rw [if_neg y,if_neg (λq=>y q.1)]
theorem hole_laid {m:M}{rs cs:List (Row M)}{f l:Int} (hfl:f<=l) (D:DG cs (holeG rs f l)):DG (cs++[(f,l,m)]) (laidG m rs f l):=(D.put (c:=(f,l,m)) hfl λn hn=>if_pos hn).eq λn=>by
 unfold holeG laidG
 by_cases z:f<=n/\n<=l
 ·rw [if_pos (show Has (f,l,m) n from z),if_pos z]
 ·rw [if_neg (show ¬Has (f,l,m) n from z),if_neg z,if_neg z]
end
end Strip
namespace L2
open PySem PySem.Spec PyProof.Rows
noncomputable abbrev aO:=Str × Int × Int × V × V
noncomputable def cn (b:aO):List V:=[.str b.1,.int b.2.1,.int b.2.2.1,b.2.2.2.1,b.2.2.2.2]
def Nm (x:Str):Prop:=x.cps.all (· < 0x110000)=true
def fj (b:aO):Prop:=Nm b.1/\bF b.2.2.2.1/\bF b.2.2.2.2
def iI (H:Hp) (ps:List Addr) (bs:List aO):Prop:=Paired (λp b=>H p=some (.tup (cn b))/\fj b) ps bs
def dZ (H:Hp) (a:Addr) (bs:List aO):Prop:=∃ps,H a=some (.lst (ps.map V.ref))/\iI H ps bs
noncomputable def vK (b:aO):PySem.W.Dat:=.tuple [.str b.1,.int b.2.1,.int b.2.2.1,eR b.2.2.2.1,eR b.2.2.2.2]
theorem ie {H:Hp}{ps:List Addr}{bs:List aO} (h:iI H ps bs):ps.length=bs.length:=Paired.length h
theorem o8 {H:Hp}{ps:List Addr}{bs:List aO} (h:iI H ps bs){i:Nat}{p:Addr} (e:ps[i]?=some p):∃b,bs[i]?=some b/\H p=some (.tup (cn b))/\fj b:=c9 h e
theorem cL {H H':Hp}:∀{ps:List Addr}{bs:List aO},iI H ps bs->(∀p xs,H p=some (.tup xs)->H' p=some (.tup xs))->iI H' ps bs
 | _,_,.nil,_=>.nil
 | _,_,.cons a t,k=>.cons ⟨k _ _ a.1,a.2⟩ (cL t k)
theorem fX {H:Hp}{p:Addr}{b:aO} (hp:H p=some (.tup (cn b))) (hm:fj b):∀{ps:List Addr}{bs:List aO},iI H ps bs->iI H (ps++[p]) (bs++[b])
 | _,_,.nil=>.cons ⟨hp,hm⟩ .nil
 | _,_,.cons a t=>.cons a (fX hp hm t)
theorem eS {H H':Hp}{a:Addr}{bs:List aO} (h:dZ H a bs) (ka:∀xs,H a=some (.lst xs)->H' a=some (.lst xs)) (k:∀p xs,H p=some (.tup xs)->H' p=some (.tup xs)):dZ H' a bs:=by
 obtain⟨ps,e,hp⟩:=h
 exact⟨ps,ka _ e,cL hp k⟩
theorem Go.boxL {T:Addr}{pos:Pos}{q:Str}{H H':Hp} (G:Go T pos q H H') (L:dI T pos q H){a:Addr}{bs:List aO} (h:dZ H a bs):dZ H' a bs:=eS h (λ_ e=>G.lst L e) λ_ _ e=>G.tup L e
theorem nF {H:Hp}{st p:Addr}{as:List Addr}{acc:List aO}{r:aO} (hst:H st=some (.lst (as.map V.ref))) (hrs:iI H as acc) (np:H p=none) (hm:fj r) :
  dZ (upd (upd H p (.tup (cn r))) st (.lst (as.map V.ref++[V.ref p]))) st (acc++[r])/\∀b o,b≠st->H b=some o->upd (upd H p (.tup (cn r))) st (.lst (as.map V.ref++[V.ref p])) b=some o:=by
 have ps:p≠st:=λz=>by rw [z,hst]at np;cases np
 have keep:∀b o,b≠st->H b=some o->upd (upd H p (.tup (cn r))) st (.lst (as.map V.ref++[V.ref p])) b=some o:=λb o n e=>by
  rw [ag n,ag (af e np)];exact e
 refine⟨⟨as++[p],?_,fX ?_ hm (cL hrs λb xs e=>keep b _ (aD e hst (by intro z;cases z)) e)⟩,keep⟩
 ·rw [ae,List.map_append];rfl
 ·rw [ag ps,ae]
theorem xD {b:aO} (h:fj b):PySem.W.kqdOk 8 (vK b)=true:=by
 show [PySem.W.Dat.str b.1,.int b.2.1,.int b.2.2.1,eR b.2.2.2.1,eR b.2.2.2.2].all (PySem.W.kqdOk 7)=true
 simp only [List.all_cons,List.all_nil,Bool.and_true]
 rw [fW 7 h.2.1,fW 7 h.2.2,Bool.and_true,Bool.and_true]
 have:PySem.W.kqdOk 7 (.str b.1)=true:=h.1
 rw [this]
 rfl
theorem o9 {H:Hp}:∀{ps:List Addr}{bs:List aO},iI H ps bs->DatVs H (ps.map V.ref) (bs.map vK)
 | _,_,.nil=>.nil
 | _,_,.cons a t=>.cons (.tup a.1 (.cons (.str _) (.cons (.int _) (.cons (.int _) (.cons (bJ a.2.2.1) (.cons (bJ a.2.2.2) .nil)))))) (o9 t)
theorem jV {H:Hp}:∀{ps:List Addr}{bs:List aO},iI H ps bs->∀b∈bs,fj b
 | _,_,.nil,_,h=>nomatch h
 | _,_,.cons a t,b,h=>by
  rcases List.mem_cons.mp h with rfl | h
  ·exact a.2
  ·exact jV t b h
theorem ig {H:Hp}{a:Addr}{bs:List aO} (h:dZ H a bs):DatV H (.ref a) (.list (bs.map vK))/\PySem.W.kqdOk 9 (.list (bs.map vK))=true:=by
 obtain⟨ps,e,hp⟩:=h
 refine⟨.lst e (o9 hp),?_⟩
 show (bs.map vK).all (PySem.W.kqdOk 8)=true
 refine List.all_eq_true.mpr λd hd=>?_
 obtain⟨b,hb,rfl⟩:=List.mem_map.mp hd
 exact xD (jV hp b hb)
end L2
namespace Strip
open L2 PySem
noncomputable def dayL (g:Int->V):List V:=(List.range 400).map λi:Nat=>g (i:Int)
theorem dayL_len (g:Int->V):(dayL g).length=400:=by unfold dayL;rw [List.length_map,List.length_range]
theorem dayL_get (g:Int->V){i:Nat} (h:i < 400):(dayL g)[i]?=some (g (i:Int)):=by
 unfold dayL
 rw [List.getElem?_map,List.getElem?_range h]
 rfl
theorem dayL_put (g:Int->V){f l:Int} (h0:0<=f) (h1:f<=l) (h2:l < 400) (m:V) :
  (dayL g).take f.toNat++(List.replicate (l+1 - f).toNat [m]).flatten++(dayL g).drop (l+1).toNat=dayL λn=>if f<=n/\n<=l then m else g n:=by
 obtain⟨a,rfl⟩:=Int.eq_ofNat_of_zero_le h0
 obtain⟨b,rfl⟩:=Int.eq_ofNat_of_zero_le (Int.le_trans h0 h1)
 have e1:((b:Int)+1 - (a:Int)).toNat=b+1 - a:=by omega
 have e2:((b:Int)+1).toNat=b+1:=by omega
 have ef:∀k:Nat,(List.replicate k [m]).flatten=List.replicate k m:=λk=>by
  induction k with
  | zero=>rfl
  | succ k ih=>rw [List.replicate_succ,List.flatten_cons,ih];rfl
 have la:((dayL g).take a).length=a:=by rw [List.length_take,dayL_len];omega
 rw [e1,e2,ef,Int.toNat_natCast]
 apply List.ext_getElem?
 intro i
 by_cases hi:i < 400
 ·rw [dayL_get _ hi]
  by_cases c1:i < a
  ·rw [List.append_assoc,List.getElem?_append_left (by rw [la];exact c1),List.getElem?_take,if_pos c1,dayL_get _ hi,if_neg ‹1›]
  ·by_cases c2:i<=b
   ·rw [List.append_assoc,List.getElem?_append_right (by rw [la];omega),la,List.getElem?_append_left (by rw [List.length_replicate];omega),List.getElem?_replicate,if_pos ‹1›,if_pos ‹1›]
   ·rw [List.append_assoc,List.getElem?_append_right (by rw [la];omega),la,List.getElem?_append_right (by rw [List.length_replicate];omega),List.length_replicate,List.getElem?_drop,if_neg ‹1›,
     show b+1+(i - a - (b+1 - a))=i by omega,dayL_get _ hi]
 ·rw [List.getElem?_eq_none,List.getElem?_eq_none]
  ·rw [dayL_len];omega
  ·rw [List.length_append,List.length_append,la,List.length_replicate,List.length_drop,dayL_len];omega
end Strip
namespace L2
open PySem PySem.Spec PyProof.Rows
inductive Caps (X:Cx) (scope:Scope) (cl0:List (Str × Addr)):List (Str × Addr)->List Nat->Prop
 | nil:Caps X scope cl0 [] []
 | cons {y:Str}{c:Addr}{i:Nat}{cl:List (Str × Addr)}{sub:List Nat} (hN:X.N[i]?=some y) (hv:Vis X.env.scope y) (hk:X.env.kindOf y≠some .local)
   (hvis:(compEnvC scope cl0 0 X.env).kindOf y=some .cell\/(compEnvC scope cl0 0 X.env).kindOf y=some .free) (hc:X.env.cells.lookup y=some c) (t:Caps X scope cl0 cl sub):Caps X scope cl0 ((y,c)::cl) (i::sub)
section
variable {X:Cx}{scope:Scope}{cl0:List (Str × Addr)}
theorem Caps.len:∀{cl:List (Str × Addr)}{sub:List Nat},Caps X scope cl0 cl sub->sub.length=(cl.map (·.1)).length
 | _,_,.nil=>rfl
 | _,_,.cons _ _ _ _ _ t=>congrArg (· + 1) t.len
theorem Caps.at:∀{cl:List (Str × Addr)}{sub:List Nat},Caps X scope cl0 cl sub->∀(j i:Nat) (y:Str),sub[j]?=some i->(cl.map (·.1))[j]?=some y->X.N[i]?=some y/\Vis X.env.scope y/\X.env.kindOf y≠some .local
 | _,_,.nil,_,_,_,e,_=>by simp at e
 | _,_,.cons hN hv hk _ _ t,j,i,y,e1,e2=>by
  cases j with
  | zero=>
   simp at e1 e2
   subst e1 e2
   exact⟨hN,hv,hk⟩
  | succ j=>exact t.at j i y (by simpa using e1) (by simpa using e2)
theorem Caps.vis:∀{cl:List (Str × Addr)}{sub:List Nat},Caps X scope cl0 cl sub->∀y∈cl.map (·.1),(compEnvC scope cl0 0 X.env).kindOf y=some .cell\/(compEnvC scope cl0 0 X.env).kindOf y=some .free
 | _,_,.nil,_,h=>by simp at h
 | _,_,.cons _ _ _ hvis _ t,y,h=>by
  rcases List.mem_cons.mp h with e | h
  ·rw [e];exact hvis
  ·exact t.vis y h
theorem Caps.cell:∀{cl:List (Str × Addr)}{sub:List Nat},Caps X scope cl0 cl sub->∀y c,cl.lookup y=some c->X.env.cells.lookup y=some c
 | _,_,.nil,_,_,h=>by cases h
 | _,_,.cons (y:=z) (c:=d) _ _ _ _ hc t,y,c,h=>by
  rw [List.lookup_cons]at h
  split at h
  ·rename_i e
   cases h
   rw [eq_of_beq e]
   exact hc
  ·exact t.cell y c h
theorem dU {α:Type}:∀{l:List (Str × α)}{y:Str},y∈l.map (·.1)->∃c,l.lookup y=some c
 | [],_,h=>by simp at h
 | (n,k)::r,y,h=>by
  rw [List.lookup_cons]
  split
  ·exact⟨k,rfl⟩
  ·rename_i e
   rcases List.mem_cons.mp h with z | z
   ·rw [z]at e
    simp at e
   ·exact dU z
def iH (ys:List Str) (p:Str × NameKind):Prop:=p.2=.local\/p.2=.globalImplicit\/(p.1∈ys/\p.2=.free)
noncomputable instance (ys:List Str) (p:Str × NameKind):Decidable (iH ys p):=by unfold iH;exact inferInstance
theorem cH {elt iter:Expr}{x:Str}{cl:List (Str × Addr)}{sub:List Nat}{px pos:Pos}{ifs:List Expr}{wi:TI}{tt:TT}{te:TE}
  (hc:X.calm=true) (hi:PI X (.Name x px) iter wi) (hclos:closureFor scope X.env=pure cl) (hkind:scope.kind=.function)
  (hall:∀p∈scope.names,iH (cl.map (·.1)) p) (hnames:∀p∈scope.names,p.2=.local->scope.names.lookup p.1=some .local) (hx:scope.names.lookup x=some .local)
  (hnd:(x::cl.map (·.1)).Nodup) (caps:Caps X scope cl cl sub)
  (ht:∀C fp s H,PTs (cu X scope cl (x::cl.map (·.1)) C fp s H) ifs tt) (he:∀C fp s H,PE (cu X scope cl (x::cl.map (·.1)) C fp s H) elt te)
  (hs:∀x,foldedSetIterable iter X.env x=pure x:=by intro _;rfl):PEC X (.ListComp elt [⟨.Name x px,iter,ifs,0⟩] scope pos) iter scope (jf wi sub tt te):=by
 refine nJ (cl:=cl) (fv:=cl.map (·.1)) hc hi hclos (λp hp z=>?_) hkind hnames hx hnd caps.len caps.at caps.vis caps.cell (λy hy=>?_) (λz hz=>?_) ht he hs
 ·rcases hall p hp with q | q | ⟨_,q⟩ <;> rw [q]at z <;> cases z
 ·obtain⟨c,e⟩:=dU hy
  rw [e,caps.cell y c e]
 ·have far:∀k,(k=.cell\/k=.free)->(compEnvC scope cl 0 X.env).kindOf z=some k->∃c',cl.lookup z=some c':=λk hkk e=>by
   obtain⟨p,hp,e1,e2⟩:=eQ (show (scope.names.map _).lookup z=some k from e)
   obtain⟨⟨n,kk⟩,hq,rfl⟩:=List.mem_map.mp hp
   rcases hall _ hq with q | q | ⟨q,_⟩
   ·have q:kk=.local:=q
    subst q
    have e2:NameKind.local=k:=e2
    rcases hkk with r | r <;> rw [r]at e2 <;> cases e2
   ·have q:kk=.globalImplicit:=q
    subst q
    have e2:NameKind.globalImplicit=k:=e2
    rcases hkk with r | r <;> rw [r]at e2 <;> cases e2
   ·have q:n∈cl.map (·.1):=q
    have:z=n:=by
     rw [e1]
     dsimp only
     split <;> rfl
    rw [this]
    exact dU q
  rcases hz with e | e
  ·exact far _ (.inl rfl) e
  ·exact far _ (.inr rfl) e
end
theorem fg {lo:Int}{n:Nat}{D:Addr}{σ:St}{sub:List Nat}{tt:TT}{te:TE}{Q:VK}{H:Hp} (Pv:Nat->List V->Hp->Prop) (h0:Pv 0 [] (upd H D (.lst [])))
  (hs:∀i ys H2,i < n->Pv i ys H2->tt (some (.int (lo+i))::bX sub σ) H2 λb H4=>if b=true then te (some (.int (lo+i))::bX sub σ) H4 λy H5=>H5 D=some (.lst ys)/\ys.length < sizeLine/\Pv (i+1) (ys++[y]) (upd H5 D (.lst (ys++[y]))) else Pv (i+1) ys H4)
  (hd:∀ys H2,Pv n ys H2->Q (.ref D) H2) :
  ∃W:Nat->Nat->List V->Hp->Prop,(∃m,W 0 m [] (upd H D (.lst [])))/\∀i m ys H2,W i m ys H2->
   ((Itr lo n).stop i H2/\Q (.ref D) H2)\/((Itr lo n).go i H2/\∃N:List V->Hp->Prop,(∀ys' H',N ys' H'->∃m',m' < m/\W (i+1) m' ys' H')/\∀v H3,(Itr lo n).yld i H2 v H3->tt (some v::bX sub σ) H3 λb H4=>if b=true then
    te (some v::bX sub σ) H4 λy H5=>H5 D=some (.lst ys)/\ys.length < sizeLine/\N (ys++[y]) (upd H5 D (.lst (ys++[y]))) else N ys H4):=by
 refine⟨λi m ys H2=>m=n - i/\i<=n/\Pv i ys H2,⟨n,by simp,Nat.zero_le _,h0⟩,?_⟩
 rintro i m ys H2 ⟨rfl,hi,p⟩
 by_cases hlt:i < n
 ·refine .inr ⟨hlt,Pv (i+1),λys' H' p'=>⟨n - (i+1),by omega,rfl,hlt,p'⟩,λv H3 y=>?_⟩
  obtain⟨e,e2⟩:=y
  subst e e2
  exact hs i ys _ hlt p
 ·have e:i=n:=by omega
  subst e
  exact .inl ⟨Nat.le_refl _,hd ys H2 p⟩
theorem Inv.turnedL {X:Cx}{pins:List (Addr × Obj)}{σ:St}{H:Hp}{s:Shared}{h':Heap}{t':Nat}{ch:List Addr} (I:Inv X pins σ H s) (k:∀b o,b∉ch->s.heap.get? b=some o->h'.get? b=some o) (hf:∀b∈ch,gN X pins H b):Inv X pins σ H { s with heap:=h',toks:=t' }:=by
 have nit:∀b u,H b=some u->b∉ch:=λb u e z=>by rw [(hf b z).1]at e;cases e
 refine I.step (g':=s.gens) (d':=s.drawn) (ch:=ch) (λb hb=>?_) (λb o _ _ hc e _=>k b o hc e) (λb o _ _ hc e _=>⟨o.slots,k b o hc e⟩) (λ_ _ _ _ n=>n)
  (λb o hc e=>⟨o,k b o hc e⟩) (λ_ _ e=>e) (λ_ _ _ e=>e) (λb ps e=>⟨#[],by rw [e];simp⟩) (λm hm=>?_) (λb u e=>?_) I.bare
 ·obtain⟨f0,f1,f2,f3,f4,f5⟩:=hf b hb
  exact⟨f3,f1,f4,f5⟩
 ·obtain⟨o,es,ep,ho,r⟩:=hm
  exact⟨o,es,ep,k _ o (λz=>(hf _ z).2.1 rfl) ho,r⟩
 ·refine(I.hok b u e).stay (λc v hc q=>k c v ?_ q) (λ_ q=>q) λ_ _ q=>q
  rcases hc with z | z
  ·rw [z];exact nit b u e
  ·exact nit c _ z
noncomputable def Ite (K:PySem.W.Frag) (a:Addr):It:=
 ⟨λi H=>∃xs x,SqL K H a xs/\xs[i]?=some x,λi H v H'=>∃(t:Addr) (x:V),v=.ref t/\H t=none/\H'=upd H t (.tup [.int (i:Int),x])/\∀xs,SqL K H a xs->xs[i]?=some x,λi H=>∃xs,SqL K H a xs/\xs.length<=i⟩
theorem qX {P:Program}{w:World}{K:W.Frag}{elts:List Expr}{kk:Nat}{pos:Pos} (a e it:Addr) (hne:e≠it):Turn P w K (.Tuple elts kk pos) (Ite K a) [e,it] e (λi h=>(∃old,IsEnum h e it (i:Int) old)/\h.IsListIter it a i) where
 mem:=by simp
 obj:=λi h st b hb=>by
  obtain⟨⟨old,he⟩,o,ho,c,d⟩:=st
  rcases List.mem_cons.mp hb with z | z
  ·subst z
   exact⟨_,he,λv z=>by
    have z':Data.fields _=Data.cell v:=z
    cases z'⟩
  ·rcases List.mem_cons.mp z with z | z
   ·subst z
    exact⟨o,ho,λv z=>by rw [d]at z;cases z⟩
   ·cases z
 keep:=λi h h' st k=>⟨let ⟨old,he⟩:=st.1;⟨old,k e (by simp) _ he⟩,st.2.at λo q=>k it (by simp) o q⟩
 item:=by
  intro X hP hw hK hc i pins s σ H E I hf st hg
  subst hP hw hK
  obtain⟨⟨old,he⟩,hit⟩:=st
  obtain⟨xs,x,hq,hx⟩:=hg
  obtain⟨its,rv,p,hz⟩:=I.list hq
  obtain⟨u,hu,ru⟩:=rv.get hx
  refine wpAny_pyNext_enum_item he hit p.isList (x:=u) (by simpa using hu) hne λh1 heo hit1 ht1 hz1 hk1=>?_
  refine⟨_,rfl,wpAny_letOwnedTupleGo_enum heo λh2 he2 hs2=>?_⟩
  have hs2:Heap.SameBut e h1 h2:=hs2
  have el:e < s.heap.objs.size:=Heap.lt_size he
  have ht2:h2.get? s.heap.objs.size=some { cls:=.type "tuple", data:=.seq #[.int i s.toks,u] }:=(hs2.2 _ (Nat.ne_of_gt el)).trans ht1
  have nt:H s.heap.objs.size=none:=I.hok.fresh (Nat.le_refl _)
  have I1:Inv X pins σ (upd H s.heap.objs.size (.tup [.int (i:Int),x])) { s with heap:=s.heap.push { cls:=.type "tuple", data:=.seq #[.int i s.toks,u] },toks:=s.toks+1 }:=
   I.laid (a:=s.heap.objs.size) (o:=.tup [.int (i:Int),x]) (λ_ _ q=>zH0 _ q) (Nat.le_refl _) ⟨by show 2<=sizeLine;decide,[.int i s.toks,u],.cons ⟨_,rfl⟩ (.cons ru .nil),_,Heap.get?_push_size _ rfl,rfl,0,rfl⟩
  have fp1:∀b∈[e,it],gN X pins (upd H s.heap.objs.size (.tup [.int (i:Int),x])) b:=λb hb=>by
   obtain⟨f0,f1,f2,f3,f4,f5⟩:=hf b hb
   refine⟨?_,f1,f2,f3,f4,f5⟩
   have hb2:b < s.heap.objs.size:=by
    rcases List.mem_cons.mp hb with z | z
    ·rw [z];exact el
    ·rcases List.mem_cons.mp z with z | z
     ·rw [z]
      obtain⟨o,ho,_⟩:=hit
      exact Heap.lt_size ho
     ·cases z
   rw [ag (Nat.ne_of_lt hb2)]
   exact f0
  have I2:Inv X pins σ (upd H s.heap.objs.size (.tup [.int (i:Int),x])) { s with heap:=h2,toks:=s.toks+1 }:=I1.turnedL (h':=h2) (t':=s.toks+1) (λb o hb ho=>by
   have b1:b≠e:=λz=>hb (by rw [z];simp)
   have b2:b≠it:=λz=>hb (by rw [z];simp)
   by_cases bs:b=s.heap.objs.size
   ·rw [bs]at ho ⊢
    have ho:(s.heap.push { cls:=.type "tuple", data:=.seq #[.int i s.toks,u] }).get? s.heap.objs.size=some o:=ho
    rw [Heap.get?_push_size _ rfl]at ho
    cases ho
    exact ht2
   ·have ho2:s.heap.get? b=some o:=(Heap.get?_push_ne _ b _ bs).symm.trans ho
    exact(hs2.2 b b1).trans (hk1 b o b1 b2 ho2)) fp1
  refine⟨.ref s.heap.objs.size,_,I2,rfl,⟨s.heap.objs.size,x,rfl,nt,rfl,λys hy=>by rw [I.list_inj hy hq];exact hx⟩,⟨⟨u,?_⟩,hit1.extBut hs2.extBut (Ne.symm hne)⟩,λb hb=>(fp1 b hb).1⟩
  have:((i+1:Nat):Int)=(i:Int)+1:=by omega
  rw [this]
  exact he2
 done:=by
  intro X hP hw hK hc i pins s σ H E I hf st hg
  subst hP hw hK
  obtain⟨⟨old,he⟩,hit⟩:=st
  obtain⟨xs,hq,hx⟩:=hg
  obtain⟨its,rv,p,hz⟩:=I.list hq
  obtain⟨f0,f1,f2,f3,f4,f5⟩:=hf it (by simp)
  have hl:=rv.length
  exact wpAny_pyNext_enum_end (I.ok.hd hc) he hit p.isList (by simp;omega) λh' eb=>⟨rfl,I.turned (t':=s.toks) (λb o hb q=>eb b o hb q) f0 f1 f3 f4 f5⟩
 self:=λ_ _ _ _ _ st h=>let ⟨old,he⟩:=st.1;wpAny_pyIter_enum he h
noncomputable def AJ (K:PySem.W.Frag) (ta:TA):TI:=λσ H R=>ta σ H λvs H1=>∃a,vs=[.ref a]/\(∃xs,SqL K H1 a xs)/\R (Ite K a) H1
theorem mf {X:Cx}{elts:List Expr}{kk:Nat}{pt:Pos}{a:Expr}{ta:TA}{p pos:Pos} (hg:Gl X "enumerate") (hm:X.mg "enumerate" = none) (ha:PA X [a] ta) (hs:starEach [a] X.env=[(false,eval a X.env)]:=by rfl) :
  PI X (.Tuple elts kk pt) (.Call (.Name "enumerate" p) [a] [] pos) (AJ X.K ta):=by
 intro pins s σ H R I h
 refine Call_ (iy I hg hm (PyProof.Rows.Boot.«enumerate») (PyProof.Rows.callWith_type1 (thn (ha pos pins s σ H _ I h) λus s1 ⟨vs,H1,I1,r1,q1⟩=>?_) hs rfl))
 obtain⟨b,e,⟨xs,hq⟩,q⟩:=q1
 subst e
 cases r1 with
 | cons r rr=>
  cases rr
  cases r
  obtain⟨its,rv,pp,hz⟩:=I1.list hq
  refine call_enumerate_list pp.isList λh' hE hI hsz hk=>?_
  refine wpAny_pyIter_enum hE ?_
  refine⟨s1.heap.objs.size+1,[s1.heap.objs.size+1,s1.heap.objs.size],_,_,H1,rfl,I1.kept (t':=s1.toks) hk,qX b _ _ (Nat.succ_ne_self _),⟨⟨_,hE⟩,hI⟩,λc hc=>?_,q⟩
  rcases List.mem_cons.mp hc with z | z
  ·subst z
   exact I1.fpOk (Nat.le_succ _) (I1.hok.fresh (Nat.le_succ _))
  ·rcases List.mem_cons.mp z with z | z
   ·subst z
    exact I1.fpOk (Nat.le_refl _) (I1.hok.fresh (Nat.le_refl _))
   ·cases z
theorem nY {K:W.Frag}{a:Addr}{xs:List V}{g:TG}{tb:TS}{D:Ends}{σ:St}{H:Hp} (Pv:Nat->St->Hp->Prop) (h0:Pv 0 σ H) (hl:∀i σ H,i<=xs.length->Pv i σ H->SqL K H a xs)
  (hs:∀i x σ H t,xs[i]?=some x->Pv i σ H->H t=none->g (.ref t) σ (upd H t (.tup [.int (i:Int),x])) λσ2 H2=>tb { D with nx:=Pv (i+1),ct:=Pv (i+1),bk:=D.nx } σ2 H2) (hd:∀σ H,Pv xs.length σ H->D.nx σ H) :
  ∃W:Nat->Nat->St->Hp->Prop,(∃m,W 0 m σ H)/\∀i m σ H,W i m σ H->
   ((Ite K a).stop i H/\D.nx σ H)\/((Ite K a).go i H/\∃N:St->Hp->Prop,(∀σ' H',N σ' H'->∃m',m' < m/\W (i+1) m' σ' H')/\∀x H',(Ite K a).yld i H x H'->g x σ H' λσ2 H2=>tb { D with nx:=N,ct:=N,bk:=D.nx } σ2 H2):=by
 refine⟨λi m σ H=>m=xs.length - i/\i<=xs.length/\Pv i σ H,⟨xs.length,by simp,Nat.zero_le _,h0⟩,?_⟩
 rintro i m σ H ⟨rfl,hi,p⟩
 have q:=hl i σ H hi p
 by_cases hlt:i < xs.length
 ·refine .inr ⟨⟨xs,xs[i],q,by simp [hlt]⟩,Pv (i+1),λσ' H' p'=>⟨xs.length - (i+1),by omega,rfl,hlt,p'⟩,λx H' y=>?_⟩
  obtain⟨t,y1,e1,nt,e2,y⟩:=y
  subst e1 e2
  exact hs i y1 σ _ t (y xs q) p nt
 ·have e:i=xs.length:=by omega
  subst e
  exact .inl ⟨⟨xs,q,Nat.le_refl _⟩,hd σ H p⟩
theorem lI:∀{zs:List Str}{us:List Value},aJ (zs.map V.str) us->StrsAre us zs
 | [],_,r=>by cases r;exact .nil
 | z::zs,_,r=>by
  rw [List.map_cons]at r
  cases r with
  | cons a t=>
   obtain⟨tk,rfl⟩:=a
   exact .cons z tk (lI t)
theorem xo {X:Cx}:MtR X "str.join" (λx xs H Q=>∃i l zs,x=.str i/\xs=[.ref l]/\H l=some (.lst (zs.map V.str))/\(zs.map (·.length)).sum+zs.length * i.length<=16777216/\Q (.str (Txt.join i zs)) H):=by
 intro pins s σ H x xs v us Q I rx rv h
 obtain⟨i,l,zs,rfl,rfl,hl,hz,q⟩:=h
 obtain⟨t,rfl⟩:=rx
 obtain⟨u,rfl,ru⟩:=aJ.one rv
 cases ru
 obtain⟨_,its,n,r,_,e⟩:=I.lstM hl
 exact join_list (items:=its.toArray) ⟨_,e,rfl,n,rfl⟩ (by simpa using lI r) hz λt' k=>⟨.str _,H,I.tok _,⟨_,rfl⟩,q⟩
theorem mD {X:Cx}:eF X (.type "dict") (λxs H Q=>∃d kvs,xs=[.ref d]/\H d=some (.dK kvs)/\∀p,H p=none->Q (.ref p) (upd H p (.dK kvs))):=by
 intro pins s σ H xs us Q I r h
 obtain⟨d,kvs,rfl,hd,q⟩:=h
 obtain⟨u,rfl,ru⟩:=aJ.one r
 cases ru
 obtain⟨z,hds,vs,rk,dd⟩:=vH I.hok hd
 have hb:sysModules < s.heap.objs.size:=I.big
 refine kt_call_dict (knd:=aZ X.prog X.w) hds dd (by rw [<- Paired.length rk];exact z) λh' dd' sb=>?_
 refine⟨.ref s.heap.objs.size,_,I.laid (t':=s.toks) (h':=h') (λb u e=>(sb.2 b (Nat.ne_of_lt (Heap.lt_size e))).trans (zH0 _ e)) (Nat.le_refl _) (mo z (beq_eq_false_iff_ne.mpr (Ne.symm (Nat.ne_of_lt hb))) rk dd'),rfl,q _ (I.hok.fresh (Nat.le_refl _))⟩
noncomputable def ou (K:PySem.W.Frag) (wi:TI) (sub:List Nat) (tt:TT) (te:TE):TE:=λσ H Q=>wi σ H λJ H1=>∀D,H1 D=none->∃W:Nat->Nat->List V->Hp->Prop,(∃m,W 0 m [] (upd H1 D (.lst [])))/\∀i m ys H2,W i m ys H2->
 (J.stop i H2/\Q (.ref D) H2)\/(J.go i H2/\∃N:List V->Hp->Prop,(∀ys' H',N ys' H'->∃m',m' < m/\W (i+1) m' ys' H')/\∀v H3,J.yld i H2 v H3->∃(t:Addr) (a b:V),v=.ref t/\SqT K H3 t [a,b]/\tt (some a::some b::bX sub σ) H3 λc H4=>if c=true then
  te (some a::some b::bX sub σ) H4 λy H5=>H5 D=some (.lst ys)/\ys.length < sizeLine/\N (ys++[y]) (upd H5 D (.lst (ys++[y])))
  else N ys H4)
section
variable {X:Cx}
theorem rJ {elt iter:Expr}{x x2:Str}{px py pt pos:Pos}{kk:Nat}{ifs:List Expr}{scope:Scope}{cl:List (Str × Addr)}{sub:List Nat}{fv:List Str}{wi:TI}{tt:TT}{te:TE}
  (hc:X.calm=true) (hi:PI X (.Tuple [.Name x px,.Name x2 py] kk pt) iter wi) (hclos:closureFor scope X.env=pure cl)
  (hcell:∀y∈scope.names,y.2≠.cell) (hkind:scope.kind=.function) (hnames:∀y∈scope.names,y.2=.local->scope.names.lookup y.1=some .local) (hx:scope.names.lookup x=some .local) (hx2:scope.names.lookup x2=some .local)
  (hnd:(x::x2::fv).Nodup) (hl:sub.length=fv.length) (hsub:∀(j:Nat) (i:Nat) (y:Str),sub[j]?=some i->fv[j]?=some y->X.N[i]?=some y/\Vis X.env.scope y/\X.env.kindOf y≠some .local)
  (hvis:∀y∈fv,(compEnvC scope cl 0 X.env).kindOf y=some .cell\/(compEnvC scope cl 0 X.env).kindOf y=some .free)
  (hcl:∀y c,cl.lookup y=some c->X.env.cells.lookup y=some c) (hcl2:∀y∈fv,cl.lookup y=X.env.cells.lookup y)
  (hhas:∀y,((compEnvC scope cl 0 X.env).kindOf y=some .cell\/(compEnvC scope cl 0 X.env).kindOf y=some .free)->∃c,cl.lookup y=some c)
  (ht:∀C fp s H,PTs (cu X scope cl (x::x2::fv) C fp s H) ifs tt) (he:∀C fp s H,PE (cu X scope cl (x::x2::fv) C fp s H) elt te)
  (hs:∀x,foldedSetIterable iter X.env x=pure x:=by intro _;rfl):PEC X (.ListComp elt [⟨.Tuple [.Name x px,.Name x2 py] kk pt,iter,ifs,0⟩] scope pos) iter scope (ou X.K wi sub tt te):=by
 refine kP (xn:=[x,x2]) (g:=zD X.K 2 (qF (aK 0) (qF (aK 1) AK))) hc hi hclos hcell hkind hnames hl hsub hvis hcl hcl2 hhas (λC fp s H=>cR rfl (aA (ay (i:=0) hnd rfl (.inl (lookup_relabel_local hx)) (.inr (lookup_relabel_local hx))) (aA (ay (i:=1) hnd rfl (.inl (lookup_relabel_local hx2)) (.inr (lookup_relabel_local hx2))) cg))) ht he (λσ Q J H1 h D nD=>?_) hs
 obtain⟨W,w0,st⟩:=h D nD
 refine⟨W,w0,λi m ys H2 hw=>(st i m ys H2 hw).imp id λ⟨go,N,hN,h⟩=>⟨go,N,hN,λv H3 y τ hτ=>?_⟩⟩
 obtain⟨tp,va,vb,ev,htp,h⟩:=h v H3 y
 match τ,hτ with
 | [t0,t1],_=>exact⟨tp,[va,vb],ev,htp,rfl,va,[vb],rfl,vb,[],rfl,rfl,⟨[some va,some vb],rfl,rfl⟩,h⟩
variable {scope:Scope}{cl0:List (Str × Addr)}
theorem p4 {elt iter:Expr}{x x2:Str}{cl:List (Str × Addr)}{sub:List Nat}{px py pt pos:Pos}{kk:Nat}{ifs:List Expr}{wi:TI}{tt:TT}{te:TE}
  (hc:X.calm=true) (hi:PI X (.Tuple [.Name x px,.Name x2 py] kk pt) iter wi) (hclos:closureFor scope X.env=pure cl) (hkind:scope.kind=.function)
  (hall:∀p∈scope.names,iH (cl.map (·.1)) p) (hnames:∀p∈scope.names,p.2=.local->scope.names.lookup p.1=some .local) (hx:scope.names.lookup x=some .local) (hx2:scope.names.lookup x2=some .local)
  (hnd:(x::x2::cl.map (·.1)).Nodup) (caps:Caps X scope cl cl sub)
  (ht:∀C fp s H,PTs (cu X scope cl (x::x2::cl.map (·.1)) C fp s H) ifs tt) (he:∀C fp s H,PE (cu X scope cl (x::x2::cl.map (·.1)) C fp s H) elt te)
  (hs:∀x,foldedSetIterable iter X.env x=pure x:=by intro _;rfl):PEC X (.ListComp elt [⟨.Tuple [.Name x px,.Name x2 py] kk pt,iter,ifs,0⟩] scope pos) iter scope (ou X.K wi sub tt te):=by
 refine rJ (cl:=cl) (fv:=cl.map (·.1)) hc hi hclos (λp hp z=>?_) hkind hnames hx hx2 hnd caps.len caps.at caps.vis caps.cell (λy hy=>?_) (λz hz=>?_) ht he hs
 ·rcases hall p hp with q | q | ⟨_,q⟩ <;> rw [q]at z <;> cases z
 ·obtain⟨c,e⟩:=dU hy
  rw [e,caps.cell y c e]
 ·have far:∀k,(k=.cell\/k=.free)->(compEnvC scope cl 0 X.env).kindOf z=some k->∃c',cl.lookup z=some c':=λk hkk e=>by
   obtain⟨p,hp,e1,e2⟩:=eQ (show (scope.names.map _).lookup z=some k from e)
   obtain⟨⟨n,kk⟩,hq,rfl⟩:=List.mem_map.mp hp
   rcases hall _ hq with q | q | ⟨q,_⟩
   ·have q:kk=.local:=q
    subst q
    have e2:NameKind.local=k:=e2
    rcases hkk with r | r <;> rw [r]at e2 <;> cases e2
   ·have q:kk=.globalImplicit:=q
    subst q
    have e2:NameKind.globalImplicit=k:=e2
    rcases hkk with r | r <;> rw [r]at e2 <;> cases e2
   ·have q:n∈cl.map (·.1):=q
    have:z=n:=by
     rw [e1]
     dsimp only
     split <;> rfl
    rw [this]
    exact dU q
  rcases hz with e | e
  ·exact far _ (.inl rfl) e
  ·exact far _ (.inr rfl) e
end
theorem sF {K:W.Frag}{a D:Addr}{xs:List V}{σ:St}{sub:List Nat}{tt:TT}{te:TE}{Q:VK}{H:Hp} (Pv:Nat->List V->Hp->Prop) (h0:Pv 0 [] (upd H D (.lst []))) (hl:∀i ys H,i<=xs.length->Pv i ys H->SqL K H a xs)
  (hs:∀i x ys H2 t,xs[i]?=some x->Pv i ys H2->H2 t=none->tt (some (.int (i:Int))::some x::bX sub σ) (upd H2 t (.tup [.int (i:Int),x])) λb H4=>if b=true then te (some (.int (i:Int))::some x::bX sub σ) H4 λy H5=>H5 D=some (.lst ys)/\ys.length < sizeLine/\Pv (i+1) (ys++[y]) (upd H5 D (.lst (ys++[y]))) else Pv (i+1) ys H4)
  (hd:∀ys H2,Pv xs.length ys H2->Q (.ref D) H2) :
  ∃W:Nat->Nat->List V->Hp->Prop,(∃m,W 0 m [] (upd H D (.lst [])))/\∀i m ys H2,W i m ys H2->
   ((Ite K a).stop i H2/\Q (.ref D) H2)\/((Ite K a).go i H2/\∃N:List V->Hp->Prop,(∀ys' H',N ys' H'->∃m',m' < m/\W (i+1) m' ys' H')/\∀v H3,(Ite K a).yld i H2 v H3->∃(t:Addr) (a b:V),v=.ref t/\SqT K H3 t [a,b]/\tt (some a::some b::bX sub σ) H3 λc H4=>if c=true then
    te (some a::some b::bX sub σ) H4 λy H5=>H5 D=some (.lst ys)/\ys.length < sizeLine/\N (ys++[y]) (upd H5 D (.lst (ys++[y]))) else N ys H4):=by
 refine⟨λi m ys H2=>m=xs.length - i/\i<=xs.length/\Pv i ys H2,⟨xs.length,by simp,Nat.zero_le _,h0⟩,?_⟩
 rintro i m ys H2 ⟨rfl,hi,p⟩
 have q:=hl i ys H2 hi p
 by_cases hlt:i < xs.length
 ·refine .inr ⟨⟨xs,xs[i],q,by simp [hlt]⟩,Pv (i+1),λys' H' p'=>⟨xs.length - (i+1),by omega,rfl,hlt,p'⟩,λv H3 y=>?_⟩
  obtain⟨t,x,e1,nt,e2,y⟩:=y
  subst e1 e2
  exact⟨t,.int (i:Int),x,rfl,SqT.of ae,hs i x ys _ t (y xs q) p nt⟩
 ·have e:i=xs.length:=by omega
  subst e
  exact .inl ⟨⟨xs,q,Nat.le_refl _⟩,hd ys H2 p⟩
noncomputable def inS (zs:List Str) (i:Nat):Str->Bool:=λk=>decide (k∈zs.take i)
noncomputable def i8 (zs:List Str):Nat->Nat
 | 0=>0
 | i+1=>match zs[i]? with
  | some z=>if inS zs i z=true then i8 zs i else i8 zs i+1
  | none=>i8 zs i
theorem vN (zs:List Str):∀i,i8 zs i<=i
 | 0=>Nat.le_refl _
 | i+1=>by
  have:=vN zs i
  unfold i8
  split
  ·split <;> omega
  ·omega
theorem zA {zs:List Str} (nd:zs.Nodup){i:Nat}{z:Str} (ez:zs[i]?=some z):inS zs i z=false:=by
 refine decide_eq_false λq=>?_
 obtain⟨j,hj,e⟩:=List.getElem_of_mem q
 rw [List.length_take]at hj
 rw [List.getElem_take]at e
 have hi:=(List.getElem?_eq_some_iff.mp ez)
 exact(List.pairwise_iff_getElem.mp nd j i ‹1› hi.1 ‹1›) (e.trans hi.2.symm)
theorem lm {zs:List Str} (nd:zs.Nodup):∀i,i<=zs.length->i8 zs i=i
 | 0,_=>rfl
 | i+1,h=>by
  have ez:zs[i]?=some (zs[i]'‹1›):=List.getElem?_eq_getElem ‹1›
  unfold i8
  rw [ez]
  simp only
  rw [zA nd ez,lm nd i ‹1›]
  rfl
abbrev jX (P:Program) (w:World) (a:Addr) (zs:List Str) (i:Nat) (h:Heap):Prop:=h.SetOf (strKind P w) a (inS zs i) (i8 zs i)
theorem jX.at {P:Program}{w:World}{a:Addr}{zs:List Str}{i:Nat}{h h':Heap} (x:jX P w a zs i h) (e:∀o,h.get? a=some o->h'.get? a=some o):jX P w a zs i h':=by
 obtain⟨o,es,ep,t,ho,r⟩:=x
 exact⟨o,es,ep,t,e o ho,r⟩
section
variable {prog:Program}{w:World}{A:Around}{R:Result->Shared->Prop}{it:Addr}{fp wr:List Addr}{G:Array GenState->Array GenState->Prop}{P:Nat->Value->Prop}{St:Nat->Shared->Prop}
theorem tO {zs:List Str} (W:WalksS prog w A.in1 it fp wr G zs.length P St) (S:Addr) (hS:S∉fp) (val:∀i v,P i v->∃z t,zs[i]?=some z/\v=.str z t) (hb:zs.length+1 < scanBound) :
  ∀(k i:Nat) (s:Shared),zs.length - i=k->i<=zs.length->St i s->jX prog w S zs i s.heap->
   (∀s',Moved (S::wr) G s s'->jX prog w S zs zs.length s'.heap->R (.ok (.ret .none)) s')->
   codeAny (model prog w) A (.builtin "set.update.loop" ⟨[.ref S,.ref it],[]⟩) R s:=by
 have nw:S∉wr:=λz=>hS (W.sub _ z)
 have up:∀b∈wr,b∈S::wr:=λb z=>List.mem_cons_of_mem _ z
 intro k
 induction k with
 | zero=>
  intro i s ek le st x fin
  have e:i=zs.length:=by omega
  subst e
  refine codeAny_builtin F.entry_set_update_loop ?_
  rw [Around.under_plainId F.plain_set_update_loop _]
  show wpAny _ A.in1 (pyNext (.ref it) >>= _) _ _ s
  refine zB0 (W.done s _ _ st λs' mv=>?_)
  exact zP0 (fin s' (mv.mono up) (x.at λo e=>mv.heap S o nw e))
 | succ k ih=>
  intro i s ek le st x fin
  refine codeAny_builtin F.entry_set_update_loop ?_
  rw [Around.under_plainId F.plain_set_update_loop _]
  show wpAny _ A.in1 (pyNext (.ref it) >>= _) _ _ s
  refine zB0 (W.item i s _ _ ‹1› st λv s' pv st' mv=>?_)
  obtain⟨z,t,ez,rfl⟩:=val i v pv
  have x':=x.at λo e=>mv.heap S o nw e
  show wpAny _ A.in1 (holding [Value.str z t] (setAdd S (.str z t)) >>= _) _ _ s'
  refine zB0 (wpAny_holding ?_)
  unfold setAdd
  refine wpAny_holding ?_
  refine zB0 ((strKind prog w).pyHash (k:=z) (strKind_is _ _ _ _) ?_)
  have hc:=vN zs i
  refine wpAny_setAddHashed_of (knd:=strKind prog w) (s:={ s' with toks:=s'.toks+1 }) (strKind_is _ _ _ _) rfl x' ‹1› λh' sb x2=>?_
  have x0:(match zs[i]? with | some z=>if inS zs i z=true then i8 zs i else i8 zs i+1 | none=>i8 zs i)=i8 zs (i+1):=rfl
  rw [ez]at x0
  have x3:jX prog w S zs (i+1) h':=SetOf_congr x2 (λk'=>by
   unfold inS
   rw [List.take_add_one,ez,Bool.eq_iff_iff]
   simp) x0
  refine zP0 ⟨plainId_quiet F.plain_set_update_loop _,ih (i+1) _ ‹1› ‹1› (W.frame _ s' _ _ st' (Nat.le_succ _) λb hb o e=>?_) x3 λs'' mv'' x4=>?_⟩
  ·rw [sb.2 b (λh:b=S=>hS (by rw [<- h];exact hb))];exact e
  ·refine fin s'' (Moved.trans W.gtrans ((mv.mono up).then_heap (Nat.le_succ _) λb o hb e=>?_) mv'') x4
   rw [sb.2 b (λh:b=S=>hb (by rw [h];exact List.mem_cons_self))];exact e
end
section
variable {prog:Program}{w:World}{A:Around}{E:Value->Shared->Prop}{s:Shared}
noncomputable abbrev eZ (b:Bool):Obj:={ cls:=.type "set", dict:=none,data:=.set #[] 0 (.fresh 0 0 b) }
theorem pW:∀{vs:List Value}{zs:List Str},StrsAre vs zs->∀(i:Nat) (v:Value),vs[i]?=some v->∃z t,zs[i]?=some z/\v=.str z t
 | _,_,.nil,i,v,h=>by simp at h
 | _,_,.cons z t r,0,v,h=>⟨z,t,rfl,by simpa using h.symm⟩
 | _,_,.cons z t r,i+1,v,h=>by
  obtain⟨z',t',e1,e2⟩:=pW r i v (by simpa using h)
  exact⟨z',t',by simpa using e1,e2⟩
theorem kB {l:Addr}{its:Array Value}{zs:List Str}{Q:Value->Shared->Prop} (hh:A.handled=none) (hl:s.heap.IsList l its) (hs:StrsAre its.toList zs) (hb:zs.length+1 < scanBound)
  (q:∀(h':Heap) (tk:Nat),jX prog w s.heap.objs.size zs zs.length h'->(∀a o,a < s.heap.objs.size->s.heap.get? a=some o->h'.get? a=some o)->Q (.ref s.heap.objs.size) { s with heap:=h',toks:=tk }) :
  wpAny (model prog w) A (call (.type "set") [.ref l]) Q E s:=by
 have ft:=PySem.F.called_set
 obtain⟨c0,tl0,m0⟩:=ft.mro
 have m1:=ft.made
 have m2:=ft.sub
 have hlen:its.size=zs.length:=by
  have:=hs.length
  rw [Array.length_toList]at this
  exact this
 refine wpAny_call (codeAny_of_tree ?_)
 show wpAny _ _ (callAny (.type "set") _) _ _ _
 refine zP0 ⟨Code.quiet_builtin _ ‹0›,codeAny_builtin PySem.F.entry_type_call ?_⟩
 rw [Around.under_plain (weight_type_call_type "set" [.ref l] []) rfl]
 have m3:=ft.notType
 have m4:=ft.canCreate
 have m5:=PySem.F.typeCall_set_1 (.ref l)
 repeat (any_goals (first | assumption | wp_step))
 refine codeAny_mono (PySem.code_set_new_1 (.ref l) (E:=E) (Q₁:=λo s1=>∃b:Bool,o=.ref s.heap.objs.size/\s1={ s with heap:=s.heap.push (eZ b) }) λb=>⟨b,rfl,rfl⟩) λr s1 hr=>?_
 cases r with
 | error e=>exact hr
 | ok fl=>
  cases fl with
  | ret o=>
   obtain⟨b,rfl,rfl⟩:=hr
   have hS:(s.heap.push (eZ b)).get? s.heap.objs.size=some (eZ b):=Heap.get?_push_size _ rfl
   have hT:Shared.TypeIs { s with heap:=s.heap.push (eZ b) } (.ref s.heap.objs.size) "set":=⟨_,hS,rfl⟩
   have n1:=ft.init.lookup
   have n2:=ft.init.bind (.ref s.heap.objs.size)
   repeat (any_goals (first | assumption | wp_step))
   refine codeAny_mono (codeAny_call_builtin (R:=wants (λr s2=>r=.none/\∃h' tk,s2={ s with heap:=h',toks:=tk }/\jX prog w s.heap.objs.size zs zs.length h'/\∀a o,a < s.heap.objs.size->s.heap.get? a=some o->h'.get? a=some o) E) ft.init.plain PySem.F.entry_set_init (PySem.check_set_init_1 hT ?_)) λr2 s2 hr2=>?_
   ·obtain⟨ol,hol,hcl,nl,hdl⟩:=hl
    obtain⟨oc,od,oa,os⟩:=ol
    simp only at hcl hdl
    subst hcl;subst hdl
    have ho1:(s.heap.push (eZ b)).get? l=some { cls:=.type "list", dict:=od,data:=.seq its nl,slots:=os }:=zH0 _ hol
    have k1:=PySem.F.sub_list_set
    have k2:=PySem.F.sub_list_frozenset
    have k3:(Value.type "list" == Value.type "dict")=false:=by decide
    have l1:(s.heap.push (eZ b)).IsList l its:=⟨_,ho1,rfl,nl,rfl⟩
    have lS:l < s.heap.objs.size:=Heap.lt_size hol
    unfold Builtin.«set.__init__» noKeywords Builtin.Frozenset.updateFrom
    generalize eI:pyIter=PI
    wp_walk
    subst eI
    refine wpAny_pyIter_list l1 ?_
    refine zB0 (wpAny_runValue ?_)
    have zp:(s.heap.push (eZ b)).objs.size=s.heap.objs.size+1:=Heap.size_push _ _
    have d1:l≠(s.heap.push (eZ b)).objs.size:=by rw [zp];exact Nat.ne_of_lt (Nat.lt_succ_of_lt lS)
    have d2:s.heap.objs.size∉[(s.heap.push (eZ b)).objs.size,l]:=by
     rw [zp]
     intro z
     rcases List.mem_cons.mp z with z | z
     ·exact Nat.ne_of_lt (Nat.lt_succ_self _) z
     ·exact Nat.ne_of_gt lS (List.mem_singleton.mp z)
    have W:=(Walks.list (prog:=prog) (w:=w) (A:=A.in1.in1.in1) (by simp [hh]) _ l d1 its).toS
    rw [hlen]at W
    refine tO W s.heap.objs.size d2 (λi v hv=>pW hs i v (by rw [Array.getElem?_toList];exact hv)) hb (zs.length - 0) 0 _ ‹1› (Nat.zero_le _) ⟨⟨_,Heap.get?_push_size _ rfl,rfl,rfl⟩,l1.push _⟩ ?s0 ?fin
    case s0=>
     exact SetOf_congr ((setObjOf_fresh (knd:=strKind prog w) b).setOf (zH0 _ hS) (by unfold scanBound;omega)) (λ_=>by unfold inS;simp) rfl
    case fin=>
     intro s' mv x
     obtain⟨h',g',d',tk',os'⟩:=s'
     obtain rfl:g'=s.gens:=mv.gens
     obtain rfl:d'=s.drawn:=mv.drawn
     obtain rfl:os'=s.os:=mv.os
     refine zP0 ?_
     show wpAny _ _ (ret Value.none) _ _ _
     refine zP0 ⟨rfl,h',tk',rfl,x,λa o ha e=>mv.heap a o (λz=>?_) (zH0 _ (zH0 _ e))⟩
     rcases List.mem_cons.mp z with z | z
     ·exact Nat.ne_of_lt ha z
     ·rw [zp]at z
      exact Nat.ne_of_lt (Nat.lt_succ_of_lt ha) (List.mem_singleton.mp z)
   ·cases r2 with
    | error e=>exact hr2
    | ok f2=>
     cases f2 with
     | ret r=>
      obtain⟨rfl,h',tk,rfl,x,kp⟩:=hr2
      repeat (any_goals (first | assumption | wp_step))
      exact q _ _ x kp
     | _=>exact hr2.elim
  | _=>exact hr.elim
end
theorem sG {X:Cx} (hc:X.calm=true):eF X (.type "set") (λxs H Q=>∃(a:Addr) (zs:List Str),xs=[.ref a]/\SqL X.K H a (zs.map V.str)/\zs.length<=1000/\∀p,H p=none->Q (.ref p) (upd H p (.ext (jX X.prog X.w p zs zs.length)))):=by
 intro pins s σ H xs us Q I r h
 obtain⟨a,zs,rfl,hS,hz,q⟩:=h
 obtain⟨u,rfl,ru⟩:=gP r
 cases (show u=Value.ref a from ru)
 obtain⟨its,rv,p,_⟩:=I.list hS
 refine kB (I.ok.hd hc) p.isList (by simpa using lI rv) (by unfold scanBound;omega) λh' tk x kp=>?_
 refine⟨.ref s.heap.objs.size,_,I.laid (o:=.ext (jX X.prog X.w s.heap.objs.size zs zs.length)) (t':=tk) (h':=h') (λb u e=>kp b u (Heap.lt_size e) e) (Nat.le_refl _) (by
  obtain⟨o,_,_,_,e,_⟩:=id x
  exact⟨x,⟨o,e⟩,λh1 h2 e k=>e.at k⟩),rfl,q _ (I.hok.fresh (Nat.le_refl _))⟩
theorem sH {X:Cx}:eF X (.builtin "len") (λxs H Q=>∃(a:Addr) (zs:List Str),xs=[.ref a]/\H a=some (.ext (jX X.prog X.w a zs zs.length))/\Q (.int (i8 zs zs.length)) H):=by
 intro pins s σ H xs us Q I r h
 obtain⟨a,zs,rfl,hS,q⟩:=h
 obtain⟨u,rfl,ru⟩:=gP r
 cases (show u=Value.ref a from ru)
 obtain⟨o,es,ep,t,ho,hex,hd,_,_,hb,hf,hn⟩:=(show br X.prog X.w H s.heap a _ from I.hok a _ hS).1
 refine call_len_set ho hex hd hf (by unfold scanBound at hb;omega) ⟨.int (i8 zs zs.length),H,I.tok _,⟨_,by rw [hn]⟩,q⟩
theorem fU:plainId "dict.update.loop" = true:=‹0›
theorem lc:entryFor table "dict.update.loop" = some Builtin.«dict.update.loop»:=entryFor_of_tree (by kernel_rfl)
end L2
namespace PySem
open PySem PySem.Spec
theorem xu:typeLookup (.type "list") "__getattr__" = pure none:=by rw [typeLookup_type,builtinLookup_eq_fast];kernel_rfl
theorem xr:typeLookup (.type "list") "keys" = pure none:=by rw [typeLookup_type,builtinLookup_eq_fast];kernel_rfl
section
variable {prog:Program}{w:World}{A:Around}{E:Value->Shared->Prop}{h:Heap}{g:Array GenState}{d:Drawn}{t:Nat}{os:OsState}{a:Addr}{o:Obj}
theorem jg:isSubtype (.type "AttributeError") (.type "AttributeError")=pure true:=by rw [isSubtype_type];kernel_rfl
theorem pE (vs:List Value):firstArgMember (.type "AttributeError") vs=pure .none:=by
 have e:((Manifest.find? "AttributeError").elim false λt=>t.mro.contains "StopIteration" || t.mro.contains "SystemExit")=false:=by kernel_rfl
 simp only [firstArgMember,e]
 rfl
theorem oX {α:Type}{name msg:Str}{s:Shared}{Q:α->Shared->Prop} (hm:msg.length<=sizeLine) (hh:A.handled=none)
  (hq:∀h' tk e,(∀b o,s.heap.get? b=some o->h'.get? b=some o)->(∃ob,h'.get? e=some ob/\ob.cls=.type "AttributeError")->E (.ref e) { s with heap:=h',toks:=tk }) :
  wpAny (model prog w) A (raiseAttrError (.ref a) name msg) Q E s:=by
 unfold raiseAttrError
 refine zB0 (wpAny_mkStr ?_ hm)
 refine zB0 ?_
 unfold newExc newTuple
 refine zB0 (wpAny_newObj_type ?_ (by show 1<=sizeLine;decide))
 refine zB0 (m:=firstArgMember _ _) (wpAny_of_eq (pE _) ?_)
 refine wpAny_newObj_type ?_ (by first | trivial | size_fits)
 refine zB0 (wpAny_mkText ?_)
 have hT:∀tk,Shared.TypeIs { s with heap:=(s.heap.push { cls:=.type "tuple", data:=.seq #[Value.str msg s.toks] }).push { cls:=.type "AttributeError", data:=.fields (#[Value.ref s.heap.objs.size,.none,.none,.none,.bool false,.none]++ownMembersOf (.type "AttributeError") [Value.str msg s.toks]) },toks:=tk } (.ref (s.heap.push { cls:=.type "tuple", data:=.seq #[Value.str msg s.toks] }).objs.size) "AttributeError":=λtk=>⟨_,Heap.get?_push_size _ rfl,rfl⟩
 have hG:((s.heap.push { cls:=.type "tuple", data:=.seq #[Value.str msg s.toks] }).push { cls:=.type "AttributeError", data:=.fields (#[Value.ref s.heap.objs.size,.none,.none,.none,.bool false,.none]++ownMembersOf (.type "AttributeError") [Value.str msg s.toks]) }).get? (s.heap.push { cls:=.type "tuple", data:=.seq #[Value.str msg s.toks] }).objs.size=some { cls:=.type "AttributeError", data:=.fields (#[Value.ref s.heap.objs.size,.none,.none,.none,.bool false,.none]++ownMembersOf (.type "AttributeError") [Value.str msg s.toks]) }:=Heap.get?_push_size _ rfl
 refine zB0 ?_
 unfold noteAttr lacksNameAndObj
 refine zB0 ?_
 refine zB0 (wpAny_isInstance (hT _) jg ?_)
 rw [if_neg (by decide)]
 refine zB0 (wpAny_load hG ?_)
 rw [show ownMembersOf (.type "AttributeError") [Value.str msg s.toks] = #[unsetMember,unsetMember] from rfl]
 refine zP0 ?_
 rw [if_pos rfl]
 refine zB0 (wpAny_rule ?_)
 refine zB0 (wpAny_typeOf (hT _) ?_)
 unfold layMembers
 refine zB0 (wpAny_load hG ?_)
 refine wpAny_update hG ?_
 unfold raiseNew
 refine zB0 (wpAny_handled ?_)
 rw [hh]
 refine zB0 (zP0 (wpAny_throw ?_))
 refine hq _ _ _ (λb o e=>?_) ⟨_,Heap.get?_update_self _ hG (Obj.isFreed_of_fields (Obj.data_mapFields rfl _)),Obj.cls_mapFields _ _⟩
 rw [Heap.get?_update_ne _ _ _ _ (Nat.ne_of_lt (Nat.lt_of_lt_of_le (Heap.lt_size e) (by simp)))]
 exact zH0 _ (zH0 _ e)
theorem pB {tk:Tok}{Q:Fin->Shared->Prop} (hh:A.handled=none){its:Array Value}{n:Nat}{sl:Array (Option Value)} (hx:h.get? a=some { cls:=.type "list", dict:=none,data:=.seq its n,slots:=sl })
  (hq:∀h' tk' e,(∀b o,h.get? b=some o->h'.get? b=some o)->(∃ob,h'.get? e=some ob/\ob.cls=.type "AttributeError")->E (.ref e) ⟨h',g,d,tk',os⟩) :
  wpAny (model prog w) A (Builtin.«object.__getattribute__» ⟨[.ref a,.str "keys" tk],[]⟩) Q E ⟨h,g,d,t,os⟩:=by
 have hT:(⟨h,g,d,t,os⟩:Shared).TypeIs (.ref a) "list":=⟨_,hx,rfl⟩
 have f4:=xr
 repeat (any_goals (first | assumption | wp_step))
 exact oX (Nat.le_of_ble_eq_true (by kernel_rfl)) hh hq
theorem xw {tk:Tok}{Q:Value->Shared->Prop} (hh:A.handled=none){its:Array Value}{n:Nat}{sl:Array (Option Value)} (hx:h.get? a=some { cls:=.type "list", dict:=none,data:=.seq its n,slots:=sl })
  (hq:∀h' tk' e,(∀b o,h.get? b=some o->h'.get? b=some o)->(∃ob,h'.get? e=some ob/\ob.cls=.type "AttributeError")->E (.ref e) ⟨h',g,d,tk',os⟩) :
  wpAny (model prog w) A (getAttrBy (.ref a) (.str "keys" tk) false) Q E ⟨h,g,d,t,os⟩:=by
 have hT:(⟨h,g,d,t,os⟩:Shared).TypeIs (.ref a) "list":=⟨_,hx,rfl⟩
 have f2:=F.slot_list_getattribute.lookup
 have f3:=F.slot_list_getattribute.bind (.ref a)
 repeat (any_goals (first | assumption | wp_step))
 refine codeAny_call_builtin F.slot_list_getattribute.plain F.entry_list_ga (F.slot_list_getattribute.check _ _ _ _ _ _ _ _ hT (F.args_list_getattribute_2 _ _) (pB (by simp [hh]) hx λh' tk' e k x=>?_))
 dsimp only
 unfold getattributeRaised
 have hTe:(⟨h',g,d,tk',os⟩:Shared).TypeIs (.ref e) "AttributeError":=x
 have s1:=jg
 have s2:=xu
 repeat (any_goals (first | assumption | wp_step))
 exact hq _ _ _ k x
theorem no_keys {Q:Option Value->Shared->Prop}{s:Shared} (hh:A.handled=none){its:Array Value}{n:Nat}{sl:Array (Option Value)} (hx:s.heap.get? a=some { cls:=.type "list", dict:=none,data:=.seq its n,slots:=sl })
  (hq:∀h' tk',(∀b o,s.heap.get? b=some o->h'.get? b=some o)->Q none { s with heap:=h',toks:=tk' }):wpAny (model prog w) A (getAttr? (.ref a) "keys") Q E s:=by
 obtain⟨h,g,d,t,os⟩:=s
 unfold getAttr? getAttrBy?
 refine zB0 (wpAny_mkText ?_)
 refine zB0 (wpAny_attempt (xw hh hx λh' tk' e k x=>?_))
 refine zB0 (wpAny_isInstance x jg ?_)
 exact zP0 (hq _ _ k)
end
end PySem
namespace L2
open PySem PySem.Spec PyProof.Rows
section
variable {prog:Program}{w:World}{A:Around}{R:Result->Shared->Prop}{it:Addr}{fp wr:List Addr}{G:Array GenState->Array GenState->Prop}{P:Nat->Value->Prop}{St:Nat->Shared->Prop}
theorem nU (kvs:List (Key × Value)) (p:Key × Value):merged [] (kvs++[p])=stored (merged [] kvs) p.1 p.2:=by
 unfold merged
 rw [List.foldl_append]
 rfl
theorem ow (kvs:List (Key × Value)) (k:Key) (v:Value):(stored kvs k v).length<=kvs.length+1:=by
 unfold stored
 split
 ·rw [List.length_map];omega
 ·rw [List.length_append];exact Nat.le_refl _
theorem jG:∀(ms kvs:List (Key × Value)),(merged kvs ms).length<=kvs.length+ms.length
 | [],kvs=>Nat.le_refl _
 | p::ms,kvs=>by
  have h1:=jG ms (stored kvs p.1 p.2)
  have h2:=ow kvs p.1 p.2
  show (merged (stored kvs p.1 p.2) ms).length<=_
  rw [List.length_cons]
  omega
theorem sA {kvs:List (Key × Value)}{hb:Heap} (W:WalksS prog w A.in1 it fp wr G kvs.length P St) (S:Addr) (hS:S∉fp)
  (tp:∀j v,P j v->∃y x p u,kvs[j]?=some (y,x)/\v=.ref p/\p≠S/\p∉wr/\IsTup hb p #[u,x]/\(aZ prog w).is y u=true) (hz:kvs.length<=1000) :
  ∀(k i:Nat) (s:Shared),kvs.length - i=k->i<=kvs.length->St i s->s.heap.DictOf (aZ prog w) S (merged [] (kvs.take i))->(∀b o,b∉S::wr->hb.get? b=some o->s.heap.get? b=some o)->
   (∀s',Moved (S::wr) G s s'->s'.heap.DictOf (aZ prog w) S (merged [] kvs)->R (.ok (.ret .none)) s')->
   codeAny (model prog w) A (.builtin "dict.update.loop" ⟨[.ref S,.ref it,rawInt (i:Int),.none],[]⟩) R s:=by
 have nw:S∉wr:=λz=>hS (W.sub _ z)
 have up:∀b∈wr,b∈S::wr:=λb z=>List.mem_cons_of_mem _ z
 intro k
 induction k with
 | zero=>
  intro i s ek le st x kp fin
  have e:i=kvs.length:=by omega
  subst e
  rw [List.take_length]at x
  refine codeAny_builtin lc ?_
  rw [Around.under_plainId fU _]
  show wpAny _ A.in1 (pyNext (.ref it) >>= _) _ _ s
  refine zB0 (W.done s _ _ st λs' mv=>?_)
  refine zB0 (zP0 ?_)
  exact zP0 (fin s' (mv.mono up) (x.at λo e=>mv.heap S o nw e))
 | succ k ih=>
  intro i s ek le st x kp fin
  refine codeAny_builtin lc ?_
  rw [Around.under_plainId fU _]
  show wpAny _ A.in1 (pyNext (.ref it) >>= _) _ _ s
  refine zB0 (W.item i s _ _ ‹1› st λv s' pv st' mv=>?_)
  obtain⟨y,z,p,u,ez,rfl,pS,pw,tt,hu⟩:=tp i v pv
  have x':=x.at λo e=>mv.heap S o nw e
  have pn:p∉S::wr:=λq=>by
   rcases List.mem_cons.mp q with q | q
   ·exact pS q
   ·exact pw q
  obtain⟨o,ho,oc,n,od⟩:=tt
  have ho':s'.heap.get? p=some o:=mv.heap p o pw (kp p o pn ho)
  refine zB0 (wpAny_holding ?_)
  refine zB0 (wpAny_tryCatch ?_)
  unfold Builtin.Dict.pairItems
  refine zB0 (wpAny_typeOf (T:="tuple") ⟨o,ho',oc⟩ ?_)
  rw [if_pos (by decide)]
  refine zB0 (wpAny_seqItems ho' od ?_)
  refine zP0 ?_
  show wpAny _ _ (holding [u,z] (dictSet S u z)) _ _ _
  refine wpAny_holding ?_
  have hln:=jG (kvs.take i) []
  rw [List.length_take,List.length_nil]at hln
  refine wpAny_dictSet_pairs hu x' (λh' dd sb=>?_) (by rw [sizeLine_eq];omega)
  have et:kvs.take (i+1)=kvs.take i++[(y,z)]:=by rw [List.take_add_one,ez];rfl
  refine zP0 ⟨plainId_quiet fU _,?_⟩
  have step:=ih (i+1) { s' with heap:=h',toks:=s'.toks+1 } ‹1› ‹1› (W.frame _ s' _ _ st' (Nat.le_succ _) λb hb o e=>?_) (by rw [et,nU];exact dd) (λb o hb e=>?_) (λs'' mv'' x4=>?_)
  ·have e1:rawInt ((i+1:Nat):Int)=rawInt ((i:Int)+1):=by push_cast;rfl
   rw [e1]at step
   exact step
  ·rw [sb.2 b (λh:b=S=>hS (by rw [<- h];exact hb))];exact e
  ·rw [sb.2 b (λh:b=S=>hb (by rw [h];exact List.mem_cons_self))]
   exact mv.heap b o (λq=>hb (up b q)) (kp b o hb e)
  ·refine fin s'' (Moved.trans W.gtrans ((mv.mono up).then_heap (Nat.le_succ _) λb o hb e=>?_) mv'') x4
   rw [sb.2 b (λh:b=S=>hb (by rw [h];exact List.mem_cons_self))];exact e
end
section
variable {prog:Program}{w:World}{A:Around}{E:Value->Shared->Prop}{s:Shared}
theorem iV {l:Addr}{its:List Value}{n:Nat}{kvs:List (Key × Value)}{Q:Value->Shared->Prop} (hh:A.handled=none) (hl:s.heap.get? l=some { cls:=.type "list", dict:=none,data:=.seq its.toArray n,slots:=#[] })
  (tp:∀(j:Nat) (v:Value),its[j]?=some v->∃y x p u,kvs[j]?=some (y,x)/\v=.ref p/\IsTup s.heap p #[u,x]/\(aZ prog w).is y u=true) (hk:kvs.length=its.length) (hz:kvs.length<=1000)
  (q:∀(h':Heap) (tk:Nat),h'.DictOf (aZ prog w) s.heap.objs.size (merged [] kvs)->(∀a o,s.heap.get? a=some o->h'.get? a=some o)->Q (.ref s.heap.objs.size) { s with heap:=h',toks:=tk }) :
  wpAny (model prog w) A (call (.type "dict") [.ref l]) Q E s:=by
 refine callType_codes (Q₁:=λo s1=>o=.ref s.heap.objs.size/\s1={ s with heap:=s.heap.push { cls:=.type "dict", data:=.dict #[] } }) PySem.F.kt_called_dict (PySem.F.kt_typeCall_dict_1 _) PySem.F.entry_dict_init (kt_code_dict_new _ ⟨rfl,rfl⟩) ?_
 rintro o s1 ⟨rfl,rfl⟩
 have hn:(s.heap.push { cls:=.type "dict", data:=.dict #[] }).DictOf (aZ prog w) s.heap.objs.size []:=Heap.DictOf.new s.heap
 have hl1:(s.heap.push { cls:=.type "dict", data:=.dict #[] }).get? l=some { cls:=.type "list", dict:=none,data:=.seq its.toArray n,slots:=#[] }:=zH0 _ hl
 have lS:l < s.heap.objs.size:=Heap.lt_size hl
 refine⟨hn.typeIs,PySem.F.args_dict_init_2 _ _,?_⟩
 unfold Builtin.«dict.__init__»
 refine zB0 ?_
 unfold Builtin.Dict.selfAndRest
 refine zB0 (wpAny_notOrdered_dict hn.typeIs ?_)
 refine zP0 ?_
 show wpAny _ _ (Builtin.Dict.updateFrom "dict.__init__" s.heap.objs.size (.ref l) [] .none) _ _ _
 unfold Builtin.Dict.updateFrom
 refine zB0 (wpAny_typeOf (T:="list") ⟨_,hl1,rfl⟩ ?_)
 rw [if_pos (by decide)]
 refine zB0 (PySem.no_keys (by simp [hh]) hl1 λh2 tk2 k2=>?_)
 rw [if_pos (show (Option.isNone (none:Option Value))=true from rfl)]
 refine zB0 (wpAny_rule ?_)
 have l2:h2.IsList l its.toArray:=⟨_,k2 _ _ hl1,rfl,n,rfl⟩
 refine zB0 (wpAny_pyIter_list l2 ?_)
 have z2:s.heap.objs.size < h2.objs.size:=by
  obtain⟨o,_,_,e,_⟩:=hn
  exact Heap.lt_size (k2 _ _ e)
 have d1:l≠h2.objs.size:=Nat.ne_of_lt (Nat.lt_trans lS z2)
 have W:=(Walks.list (prog:=prog) (w:=w) (A:=A.in1.in1) (by simp [hh]) h2.objs.size l d1 its.toArray).toS
 have ez:its.toArray.size=kvs.length:=by rw [List.size_toArray,hk]
 rw [ez]at W
 refine zP0 ⟨plainId_quiet fU _,?_⟩
 refine sA (hb:=s.heap) W s.heap.objs.size (λz=>?_) (λj v hv=>?_) hz (kvs.length - 0) 0 _ ‹1› (Nat.zero_le _) ⟨⟨_,Heap.get?_push_size _ rfl,rfl,rfl⟩,l2.push _⟩ ?_ (λb o hb e=>?_) λs' mv dd=>?_
 ·rcases List.mem_cons.mp z with z | z
  ·exact Nat.ne_of_lt z2 z
  ·exact Nat.ne_of_gt lS (List.mem_singleton.mp z)
 ·obtain⟨y,x,p,u,e1,e2,e3,e4⟩:=tp j v (by simpa using hv)
  have lp:p < s.heap.objs.size:=by
   obtain⟨o,e,_⟩:=e3
   exact Heap.lt_size e
  exact⟨y,x,p,u,e1,e2,Nat.ne_of_lt lp,λz=>Nat.ne_of_lt (Nat.lt_trans lp z2) (List.mem_singleton.mp z),e3,e4⟩
 ·exact(hn.at λo e=>k2 _ _ e).push _
 ·exact zH0 _ (k2 _ _ (zH0 _ e))
 ·obtain⟨h',g',d',tk',os'⟩:=s'
  obtain rfl:g'=s.gens:=mv.gens
  obtain rfl:d'=s.drawn:=mv.drawn
  obtain rfl:os'=s.os:=mv.os
  refine⟨rfl,q h' tk' dd λa o e=>mv.heap a o (λz=>?_) (zH0 _ (k2 _ _ (zH0 _ e)))⟩
  have la:=Heap.lt_size e
  rcases List.mem_cons.mp z with z | z
  ·exact Nat.ne_of_lt la z
  ·exact Nat.ne_of_lt (Nat.lt_trans la z2) (List.mem_singleton.mp z)
end
theorem pI {X:Cx} (hc:X.calm=true):eF X (.type "dict") (λxs H Q=>∃(l:Addr) (ps:List Addr) (kvs:List (Key × V)),xs=[.ref l]/\H l=some (.lst (ps.map V.ref))/\Paired (λp (kv:Key × V)=>H p=some (.tup [kV kv.1,kv.2])) ps kvs/\(kvs.map (·.1)).Nodup/\kvs.length<=1000/\
  ∀p,H p=none->Q (.ref p) (upd H p (.dK kvs))):=by
 intro pins s σ H xs us Q I r h
 obtain⟨l,ps,kvs,rfl,hl,hp,nd,hz,q⟩:=h
 obtain⟨u,rfl,ru⟩:=gP r
 cases (show u=Value.ref l from ru)
 obtain⟨its,n,rv,ho,hzz⟩:=I.lst hl
 clear hzz
 obtain rfl:=kC rv
 have key:∃vs:List (Key × Value),KV kvs vs/\∀(j:Nat) (p:Addr),ps[j]?=some p->∃y x u,vs[j]?=some (y,x)/\IsTup s.heap p #[u,x]/\(aZ X.prog X.w).is y u=true:=by
  clear ho rv q hl nd hz
  induction hp with
  | nil=>exact⟨[],.nil,λj p e=>by simp at e⟩
  | @cons p kv ps kvs e _ ih=>
   obtain⟨vs,rk,hv⟩:=ih
   obtain⟨_,ts,rt,it⟩:=(show br X.prog X.w H s.heap p (.tup [kV kv.1,kv.2]) from I.hok p _ e)
   obtain⟨u1,u2,rfl,r1,r2⟩:=pU rt
   refine⟨(kv.1,u2)::vs,.cons ⟨rfl,r2⟩ rk,λj p' e'=>?_⟩
   cases j with
   | zero=>
    cases (show some p=some p' from e')
    exact⟨kv.1,u2,u1,rfl,it,hV r1⟩
   | succ j=>exact hv j p' e'
 obtain⟨vs,rk,hv⟩:=key
 have hlen:vs.length=kvs.length:=(Paired.length rk).symm
 have hpl:ps.length=kvs.length:=Paired.length hp
 have big:sysModules < s.heap.objs.size:=I.big
 refine iV (kvs:=vs) (its:=ps.map Value.ref) (I.ok.hd hc) ho (λj v e=>?_) (by rw [List.length_map];omega) ‹1› λh' tk dd kp=>?_
 ·rw [List.getElem?_map]at e
  cases ep:ps[j]? with
  | none=>rw [ep]at e;cases e
  | some p=>
   rw [ep]at e
   cases e
   obtain⟨y,x,u,e1,e2,e3⟩:=hv j p ep
   exact⟨y,x,p,u,e1,rfl,e2,e3⟩
 ·have nd2:(vs.map (·.1)).Nodup:=by rw [<- KV.keys rk];exact nd
  rw [merged_nil_of_nodup vs nd2]at dd
  refine⟨.ref s.heap.objs.size,_,I.laid (o:=.dK kvs) (t':=tk) (h':=h') kp (Nat.le_refl _) (mo (by rw [sizeLine_eq];omega) (beq_eq_false_iff_ne.mpr (Ne.symm (Nat.ne_of_lt big))) rk dd),rfl,q _ (I.hok.fresh (Nat.le_refl _))⟩
end L2
namespace L2
open PySem PySem.Spec PyProof.Rows PySem.Builtin PySem.Builtin.ObjectAttr
noncomputable abbrev kg:List Value:=[.type "ValueError", .type "Exception", .type "BaseException", .type "object"]
noncomputable abbrev io (C U:Addr):List Value:=.ref C::.ref U::kg
theorem sP (self:Value) (C U:Addr):refuseLoop self "__setattr__" (io C U)=pure ():=by
 rw [refuseLoop_ref,refuseLoop_ref]
 exact PySem.F.store_ValueError.passes self
section
variable {prog:Program}{w:World}{A:Around}{E:Value->Shared->Prop}{s:Shared}{K:W.Frag}{x C U:Addr}{ox:Obj}{od:Option Obj}{cd:ClassData}{name:Str}{v:Value}
theorem zS {R:Result->Shared->Prop}{tk:Tok} (X:K.In s.heap) (I:PySem.W.InstAt s.heap x ox C od) (hc:PySem.W.clsIn K C=some cd) (hm:cd.mro=io C U) (ha:PySem.W.findIn K (.ref C) name=some none)
  (h:∀b,wpAny (model prog w) A.in1 (storeInOwnDict (.ref x) (.ref C) (.str name tk) name v b)
   (λfin s'=>match fin with | .done f=>R (.ok f) s' | .again c'=>c'.quiet=true/\codeAny (model prog w) A c' R s') (λe s'=>R (.error e) s') s) :
  codeAny (model prog w) A (.call (.builtin "object.__setattr__") ⟨[.ref x,.str name tk,v],[]⟩) R s:=by
 have O:=PySem.F.store_object
 have sub:PySem.W.Looks (model prog w) s.heap (isInstance (.ref x) (.type "object")) true:=I.type.andThen (PySem.W.looks_mroIn X (by unfold PySem.W.mroIn;rw [hc,Option.bind_some,hm];rfl))
 have hmr:PySem.W.Looks (model prog w) s.heap (mroOf (.ref C)) cd.mro:=(PySem.W.looks_clsIn X hc).andThen .now
 refine codeAny_call_builtin O.slot.plain O.entry (@PySem.W.check_slot (model prog w) _ _ s "object.__setattr__" "object" "__setattr__" (.ref x) [.str name tk,v] [] _ O.kind O.split sub (O.args _ _ _) ?_)
 rw [PySem.W.osa_eq,refuse_eq]
 refine zB0 (zB0 (I.type.here (zB0 (hmr.here ?_))))
 rw [hm,sP]
 exact zP0 (zB0 (I.type.here (zB0 ((PySem.W.looks_findIn X ha).here (zB0 (zP0 (h _)))))))
theorem zR {Q:Unit->Shared->Prop}{vs:Array Value} (X:K.In s.heap) (hx:s.heap.get? x=some { cls:=.ref C,data:=.fields vs }) (hs:PySem.W.findIn K (.ref C) "__setattr__" = some (some (.builtin "object.__setattr__")))
  (hc:PySem.W.clsIn K C=some cd) (hm:cd.mro=io C U) (hd:cd.hasDict=true) (ha:PySem.W.findIn K (.ref C) name=some none)
  (h:∀h',h'.get? x=some { cls:=.ref C,dict:=some s.heap.objs.size,data:=.fields vs }->h'.Ns1 s.heap.objs.size (λy=>if y=name then some v else none)->(∀b o,b≠x->s.heap.get? b=some o->h'.get? b=some o)->∀tk,Q () { s with heap:=h',toks:=tk }) :
  wpAny (model prog w) A (setAttr (.ref x) name v) Q E s:=by
 have I:PySem.W.InstAt s.heap x { cls:=.ref C,data:=.fields vs } C none:=⟨hx,rfl,rfl,True.intro⟩
 refine PySem.W.set_plain X I hs (zS (s:={ s with toks:=s.toks+1 }) X I hc hm ha λb=>?_)
 have hxs:x≠s.heap.objs.size:=Nat.ne_of_lt (Heap.lt_size hx)
 refine zB0 (zP0 (zB0 ?_))
 show wpAny _ _ (instanceDict x true) _ _ _
 unfold instanceDict
 refine zB0 (wpAny_loadPart hx (zB0 (PySem.W.Looks.here (s:={ s with toks:=s.toks+1 }) (PySem.W.looks_clsIn X hc) ?_)))
 rw [hd]
 dsimp only
 rw [if_neg (by decide),if_neg (by simp [typeHasDict])]
 refine zB0 (wpAny_alloc (zB0 (wpAny_update (zH0 _ hx) (zP0 ?_))))
 generalize eh:(s.heap.push { cls:=.type "dict", data:=.dict #[] }).update x (λo=>{ cls:=o.cls,dict:=some s.heap.objs.size,data:=o.data,slots:=o.slots })=h1
 have hx1:h1.get? x=some { cls:=.ref C,dict:=some s.heap.objs.size,data:=.fields vs }:=by
  rw [<- eh]
  exact Heap.get?_update_self _ (zH0 _ hx) rfl
 have hd1:h1.get? s.heap.objs.size=some { cls:=.type "dict", data:=.dict #[] }:=by
  rw [<- eh,Heap.get?_update_ne _ _ _ _ (Ne.symm hxs)]
  exact Heap.get?_push_size _ rfl
 have keep1:∀b o,b≠x->s.heap.get? b=some o->h1.get? b=some o:=λb o hb e=>by
  rw [<- eh,Heap.get?_update_ne _ _ _ _ hb]
  exact zH0 _ e
 have n1:h1.Ns1 s.heap.objs.size (λ_=>none):=Heap.Ns1.of_empty ⟨_,#[],_,hd1,rfl,λe he=>absurd he (by simp),λ_=>rfl⟩
 show wpAny _ _ (storeInDict s.heap.objs.size (.str name s.toks) name v) _ _ { s with heap:=h1,toks:=s.toks+1 }
 unfold storeInDict newKeyGuard
 refine zB0 (zP0 (zB0 (wpAny_nsSet1 (s:={ s with heap:=h1,toks:=s.toks+1 }) n1 λh2 n2 sb=>?_)))
 have sb:Heap.SameBut s.heap.objs.size h1 h2:=sb
 obtain⟨o2,es2,ep2,ho2,hd2,hc2⟩:=n2.count (PySem.Within.cons name v PySem.Within.nil)
 refine zB0 (wpAny_lookBehind ho2 (by rw [hd2];exact pastItsLine_dict (Nat.le_trans hc2 (by rw [List.length_cons,List.length_nil,sizeLine_eq];omega))) ?_)
 exact zP0 (h h2 ((sb.2 x hxs).trans hx1) n2 (λb o hb e=>(sb.2 b (Nat.ne_of_lt (Heap.lt_size e))).trans (keep1 b o hb e)) _)
theorem zT {Q:Value->Shared->Prop}{expr:Bool} (X:K.In s.heap) (I:PySem.W.InstAt s.heap x ox C od) (hc:PySem.W.clsIn K C=some cd) (hm:cd.mro=io C U)
  (hga:PySem.W.findIn K (.ref C) "__getattribute__" = some (some (.builtin "BaseException.__getattribute__"))) (hgn:PySem.W.findIn K (.ref C) "__getattr__" = some none)
  (hf:PySem.W.findObj K C od name=some (.value v)) (hv:PySem.W.handedIn v=true) (h:Q v { s with toks:=s.toks+1 }):wpAny (model prog w) A (getAttr (.ref x) name expr) Q E s:=by
 obtain⟨hh,g,d,t,os⟩:=s
 have L0:=I.type (M:=model prog w)
 have L1:=PySem.W.looks_findIn (M:=model prog w) X hga
 have L2:=PySem.W.looks_findIn (M:=model prog w) X hgn
 have L3:=PySem.W.looks_find (M:=model prog w) X I hf
 have sub:PySem.W.Looks (model prog w) hh (isInstance (.ref x) (.type "BaseException")) true:=I.type.andThen (PySem.W.looks_mroIn X (by unfold PySem.W.mroIn;rw [hc,Option.bind_some,hm];rfl))
 unfold getAttr getAttrBy
 refine zB0 (wpAny_mkText (wpAny_holding (zB0 (L0.at (zB0 (L1.at ?_))))))
 show wpAny _ _ (getAttrByItsOwn _ _ _ _ _ _) _ _ _
 unfold getAttrByItsOwn hookBefore
 rw [if_pos (show onTheHeap (Value.ref C)=true from rfl)]
 refine zB0 (L2.at (zB0 (wpAny_attempt (wpAny_holding ?_))))
 have e1:(expr && onTheHeap (Value.builtin "BaseException.__getattribute__"))=false:=by cases expr <;> rfl
 unfold callGetattribute
 rw [e1,if_neg Bool.false_ne_true]
 unfold boundAndCalled
 rw [PySem.F.attr_ValueError.ga.bind]
 refine zB0 (zP0 (wpAny_call (codeAny_call_builtin PySem.F.attr_ValueError.ga.plain PySem.F.entry_bexc_ga (@PySem.W.check_slot (model prog w) _ _ _ "BaseException.__getattribute__" "BaseException" "__getattribute__" (.ref x) _ [] _ ‹0› ‹0› sub (PySem.F.args_bexc_ga _ _) ?_))))
 unfold Builtin.«object.__getattribute__»
 refine zB0 (zP0 (zB0 (zP0 (zB0 (L0.at (zB0 (L3.at (zP0 ?_))))))))
 show wpAny (model prog w) _ (handedOut v) _ _ _
 rw [PySem.W.handedOut_of hv]
 exact zP0 h
end
section
variable {prog:Program}{w:World}{A:Around}{E:Value->Shared->Prop}{h:Heap}{g:Array GenState}{d:Drawn}{t:Nat}{os:OsState}
variable {nm q:Str}{C N f:Addr}{bs bm bmB bmN:List Value}{hdct:Bool}{sn:List Str}{sub:List Value}{ab:Bool}{col:Option Bool}{dd:Option Addr}{k0 k1 k2 k3 k5:Option Value}{B Bn newId nid initId inN:String}
theorem yg (Fn:ExcBaseFacts Bn newId inN bmN) (hBn:bmB.contains (.type Bn)=true) (F:ExcBaseFacts B nid initId bmB) (T:OwnTail h bmB bm){rest:List Value}{init:Value}{Q:Value->Shared->Prop}
  (hC:h.get? C=some (excClassObj nm q C N bs bm hdct sn sub ab col dd k0 k1 k2 k3 k5 newId)) (hi:PySem.W.Looks (model prog w) h (typeLookup (.ref C) "__init__") (some init))
  (hb:∀self,PySem.W.Looks (model prog w) h (bindSpecial init self) (init,[self])) (hrest:rest.length<=sizeLine)
  (hq:wpAny (model prog w) (A.under (.builtin "type.__call__" ⟨.ref C::rest,[]⟩)) (call init (.ref (h.objs.size+1)::rest)) (λr s'=>r=.none/\Q (.ref (h.objs.size+1)) s') E
   ⟨(h.push { cls:=.type "tuple", data:=.seq rest.toArray }).push { cls:=.ref C,data:=.fields #[.ref h.objs.size,.none,.none,.none,.bool false,.none] },g,d,t,os⟩) :
  wpAny (model prog w) A (call (.ref C) rest) Q E ⟨h,g,d,t,os⟩:=by
 have a1:=tc_lookup
 have a2:=tc_bind (.ref C)
 have a3:(⟨h,g,d,t,os⟩:Shared).TypeIs (.ref C) "type":=⟨_,hC,rfl⟩
 refine wpAny_call (codeAny_of_tree ?_)
 show wpAny (model prog w) _ (callAny (.ref C) _) _ _ _
 repeat (any_goals (first | with_reducible refine wpAny_loadPart_at hC ?_ | assumption | wp_step))
 refine⟨rfl,codeAny_call_builtin_at (Code.quiet_builtin _ ‹0›) entry_typeCall (wpAny_check_type_call_sub hC ?_)⟩
 repeat (first | with_reducible refine wpAny_madeBy_exc hC ?_ | with_reducible refine wpAny_loadPart_at hC ?_ | wp_step)
 refine codeAny_call_builtin_code (Code.quiet_builtin _ Fn.quiet) (wpAny_check_new_subU Fn hBn T hC (codeAny_exc_new_subU Fn hBn F T hC ?_ hrest))
 show wpAny (model prog w) _ _ _ _ ⟨(h.push { cls:=.type "tuple", data:=.seq rest.toArray }).push { cls:=.ref C,data:=.fields #[.ref h.objs.size,.none,.none,.none,.bool false,.none] },g,d,t,os⟩
 have hCC:(Value.ref C::bm).contains (.ref C)=true:=by simp
 have kp:∀b o,h.get? b=some o->((h.push { cls:=.type "tuple", data:=.seq rest.toArray }).push { cls:=.ref C,data:=.fields #[.ref h.objs.size,.none,.none,.none,.bool false,.none] }).get? b=some o:=λb o e=>
  zH0 _ (zH0 _ e)
 have hE:((h.push { cls:=.type "tuple", data:=.seq rest.toArray }).push { cls:=.ref C,data:=.fields #[.ref h.objs.size,.none,.none,.none,.bool false,.none] }).get? (h.objs.size+1)=some { cls:=.ref C,data:=.fields #[.ref h.objs.size,.none,.none,.none,.bool false,.none] }:=by heap_get
 have hT:((h.push { cls:=.type "tuple", data:=.seq rest.toArray }).push { cls:=.ref C,data:=.fields #[.ref h.objs.size,.none,.none,.none,.bool false,.none] }).get? h.objs.size=some { cls:=.type "tuple", data:=.seq rest.toArray }:=zH0 _ (Heap.get?_push_at rfl rfl)
 have hC2:=kp _ _ hC
 unfold isInstance
 repeat (first | (with_reducible refine wpAny_isSubtype_exc hC2 ?_;rw [hCC]) | with_reducible refine wpAny_loadPart_at hE ?_ | wp_step)
 show wpAny (model prog w) _ (typeLookup (.ref C) _) _ _ _
 refine hi _ _ _ _ kp (wpAny_holding (zB0 (hb _ _ _ _ _ kp (zB0 (thn hq λr s' hr=>?_)))))
 obtain⟨rfl,hQ⟩:=hr
 wp_walk
 exact hQ
end
end L2
namespace L2
open PySem PySem.Spec PyProof.Rows
noncomputable def XOn (n:Bool) (C e:Addr) (D:Option Addr):HO:=.ext λh=>∃vs,h.get? e=some { cls:=.ref C,dict:=D,data:=.fields vs }/\(n=true->vs[1]?=some .none)
noncomputable abbrev XO:Addr->Addr->Option Addr->HO:=XOn true
theorem sN {P:Program}{w:World}{H:Hp}{h:Heap}{n:Bool}{C e:Addr}{D:Option Addr}{vs:Array Value} (q:h.get? e=some { cls:=.ref C,dict:=D,data:=.fields vs }) (h1:n=true->vs[1]?=some .none):br P w H h e (XOn n C e D):=
 ⟨⟨vs,q,h1⟩,⟨_,q⟩,λh1 h2 ⟨us,z,z1⟩ k=>⟨us,k _ z,z1⟩⟩
theorem xM {P:Program}{w:World}{H:Hp}{h:Heap}{C e:Addr}{D:Option Addr}{vs:Array Value} (q:h.get? e=some { cls:=.ref C,dict:=D,data:=.fields vs }) (h1:vs[1]?=some .none):br P w H h e (XO C e D):=sN q λ_=>h1
theorem im {X:Cx}{pins:List (Addr × Obj)}{σ:St}{H:Hp}{s:Shared}{n:Bool}{C e:Addr}{D:Option Addr} (I:Inv X pins σ H s) (q:H e=some (XOn n C e D)):∃vs,s.heap.get? e=some { cls:=.ref C,dict:=D,data:=.fields vs }/\(n=true->vs[1]?=some .none):=(I.hok e _ q).1
noncomputable def xIn (K:PySem.W.Frag) (C U:Addr):Bool:=match K.lookup C with
 | some ⟨.type "type", _,.cls cd,sl⟩=>(match sl.toList with
  | [_,_,_,_,some (.builtin n),_]=>n == "ValueError.__new__" && cd.mro == io C U && !cd.hasDel && cd.hasDict && PySem.W.tailIn K kg (.ref U::kg)
  | _=>false)
 | _=>false
structure XCls (K:PySem.W.Frag) (C U:Addr):Prop where
 ex:xIn K C U=true
 ga:PySem.W.findIn K (.ref C) "__getattribute__" = some (some (.builtin "BaseException.__getattribute__"))
 gn:PySem.W.findIn K (.ref C) "__getattr__" = some none
 cl:PySem.W.findIn K (.ref C) "__class__" = some (some (.builtin "object.__class__"))
 sp:PySem.W.specialIn K (.builtin "object.__class__") "__get__" = some (some (.builtin "getset_descriptor.__get__"))
 tk:PySem.W.takesIn K (.builtin "object.__class__")=some true
 sa:PySem.W.findIn K (.ref C) "__setattr__" = some (some (.builtin "object.__setattr__"))
 kp:PySem.W.keepIn K (.ref C)=true
theorem qS {K:W.Frag}{h:Heap}{C U:Addr} (X:K.In h) (q:xIn K C U=true):(∃cd,PySem.W.clsIn K C=some cd/\cd.mro=io C U/\cd.hasDict=true)/\OwnTail h kg (.ref U::kg)/\
  ∃nm qn N bs hdct sn sub ab col dd k0 k1 k2 k3 k5,h.get? C=some (excClassObj nm qn C N bs (.ref U::kg) hdct sn sub ab col dd k0 k1 k2 k3 k5 "ValueError.__new__"):=by
 unfold xIn at q
 split at q
 ·rename_i dd cd sl ho
  split at q
  ·rename_i k0 k1 k2 k3 n k5 hs
   simp only [Bool.and_eq_true,beq_iff_eq,Bool.not_eq_true']at q
   obtain⟨⟨⟨⟨rfl,hm⟩,hdel⟩,hd⟩,ht⟩:=q
   refine⟨⟨cd,by unfold PySem.W.clsIn;rw [ho],hm,hd⟩,PySem.W.tail_of_in X ht,?_⟩
   obtain⟨nm,bs,mro,ns,qn,hdc,sn,sub,ab,col,del⟩:=cd
   dsimp only at hm hdel
   subst hm hdel
   have e:sl = #[k0,k1,k2,k3,some (.builtin "ValueError.__new__"),k5]:=by
    obtain⟨l⟩:=sl
    simp only at hs
    rw [hs]
   subst e
   exact⟨nm,qn,ns,bs,hdc,sn,sub,ab,col,dd,k0,k1,k2,k3,k5,X _ _ ho⟩
  ·cases q
 ·cases q
section
variable {X:Cx}{pins:List (Addr × Obj)}{σ:St}{H:Hp}{s:Shared}
def XAt (H:Hp) (e C:Addr) (fs:List (Str × V)):Prop:=∃n D,H e=some (XOn n C e D)/\((D=none/\fs=[])\/∃d,D=some d/\H d=some (.xd fs))
end
section
variable {X:Cx}
noncomputable def A0 (K:PySem.W.Frag) (f:Str) (ta:TE):TE:=λσ H Q=>ta σ H λx H1=>∃(e C U:Addr) (fs:List (Str × V)) (v:V),x=.ref e/\XAt H1 e C fs/\XCls K C U/\PySem.W.findIn K (.ref C) f=some none/\fs.lookup f=some v/\Q v H1
theorem AW {K:W.Frag}{h:Heap}{C U:Addr} (XK:K.In h) (T:XCls K C U):PySem.W.hasDictIn K C=true:=by
 obtain⟨⟨cd,hc,hm,hd⟩,_⟩:=qS XK T.ex
 unfold PySem.W.hasDictIn
 rw [hc]
 exact hd
theorem wO {o:Expr}{ta:TE}{f:Str}{pos:Pos} (he:PE X o ta) (hb:attributeBase o f X.env (eval o X.env)=eval o X.env:=by rfl):PE X (.Attribute o f pos) (A0 X.K f ta):=by
 intro pins s σ H Q I h
 refine qP hb (thn (he pins s σ H _ I h) λu s1 ⟨x,H1,I1,rx,e,C,U,fs,v,ex,xa,T,hn,hl,q⟩=>?_)
 subst ex
 obtain rfl:u=Value.ref e:=rx
 obtain⟨_,D,h1,h2⟩:=xa
 rcases h2 with⟨_,rfl⟩ | ⟨d,rfl,hd⟩
 ·cases hl
 ·obtain⟨vs,hx,_⟩:=im I1 h1
  obtain⟨mA,n1,rel⟩:=(show br X.prog X.w H1 s1.heap d (.xd fs) from I1.hok d _ hd)
  obtain⟨od,ho,look⟩:=kW n1
  obtain⟨u',hu,ru⟩:=eB.some_of (v:=v) (o:=mA f) (by rw [<- hl];exact rel f)
  obtain⟨⟨cd,hc,hm,hdct⟩,_⟩:=qS I1.kIn T.ex
  exact zT I1.kIn (ox:={ cls:=.ref C,dict:=some d,data:=.fields vs }) (od:=some od) ⟨hx,rfl,rfl,ho⟩ hc hm T.ga T.gn (PySem.W.findObj_own (AW I1.kIn T) hn rfl (by rw [look,hu])) (kZ ru) ⟨v,H1,I1.tok _,ru,q⟩
noncomputable def Am (K:PySem.W.Frag) (ta tv:TE) (f:Str):TS:=λD σ H=>tv σ H λy H1=>ta σ H1 λx H2=>∃(e C U:Addr),x=.ref e/\H2 e=some (XO C e none)/\XCls K C U/\PySem.W.findIn K (.ref C) f=some none/\
 ∀d,H2 d=none->D.nx σ (upd (upd H2 d (.xd [(f,y)])) e (XO C e (some d)))
theorem wJ {o value:Expr}{ta tv:TE}{f:Str}{pos pos':Pos} (ha:PE X o ta) (hv:PE X value tv) (hs:swapsWith value (some (.Attribute o f pos')) pos.line X.env=pure false):PS X (.Assign [.Attribute o f pos'] value pos) (Am X.K ta tv f):=by
 intro pins s σ H D I h
 refine plainObj_wpAny_Assign_Attribute (thn (hv pins s σ H _ I h) λu s1 ⟨y,H1,I1,ry,q⟩=>thn (ha pins s1 σ H1 _ I1 q) λov s2 ⟨x,H2,I2,rx,e,C,U,ex,h1,T,hn,q2⟩=>?_) hs
 subst ex
 obtain rfl:ov=Value.ref e:=rx
 obtain⟨vs,hx,hv1⟩:=im I2 h1
 obtain⟨⟨cd,hc,hm,hdct⟩,_⟩:=qS I2.kIn T.ex
 refine zR I2.kIn hx T.sa hc hm hdct hn λh' hx' n' keep tk=>?_
 have nd:H2 s2.heap.objs.size=none:=I2.hok.fresh (Nat.le_refl _)
 have ed:e≠s2.heap.objs.size:=af h1 nd
 obtain⟨od,es,ep,hod,hrest⟩:=id n'
 have Ia:=I2.laid (t':=tk) (a:=s2.heap.objs.size) (o:=.dK []) (h':=s2.heap.push { cls:=.type "dict", data:=.dict #[] }) (λ_ _ z=>zH0 _ z) (Nat.le_refl _) (jT s2.heap I2.big)
 have hfr:od.isFreed=false:=(Heap.get?_some_iff.mp hod).2
 have g1:((s2.heap.push { cls:=.type "dict", data:=.dict #[] }).update s2.heap.objs.size λ_=>od).get? s2.heap.objs.size=some od:=Heap.get?_update_self _ (Heap.get?_push_size _ rfl) hfr
 have Ib:=Ia.write (t':=tk) (x:=s2.heap.objs.size) (e:=s2.heap.objs.size) (o:=.xd [(f,y)]) (h':=(s2.heap.push { cls:=.type "dict", data:=.dict #[] }).update s2.heap.objs.size λ_=>od) (by rw [ae];exact True.intro) (.inl rfl)
  (λb z hb e0=>(Heap.get?_update_ne _ _ _ _ hb).trans e0) ⟨od,g1⟩ ⟨λg=>if g=f then some u else none,n'.at λo z=>by rw [hod]at z;cases z;exact g1,λg=>by
   show eB (List.lookup g [(f,y)]) (if g=f then some u else none)
   by_cases c:g=f
   ·rw [if_pos c,c]
    show eB (List.lookup f [(f,y)]) _
    rw [List.lookup_cons,beq_self_eq_true]
    exact ry
   ·rw [if_neg c]
    show eB (List.lookup g [(f,y)]) _
    rw [List.lookup_cons,beq_eq_false_iff_ne.mpr c]
    exact True.intro⟩
 rw [eT]at Ib
 have Ic:=Ib.write (t':=tk) (x:=e) (e:=e) (o:=XO C e (some s2.heap.objs.size)) (h':=h') (by rw [ag ed,h1];exact True.intro) (.inl rfl)
  (λb z hb e0=>by
   by_cases c:b=s2.heap.objs.size
   ·subst c
    have e0:((s2.heap.push { cls:=.type "dict", data:=.dict #[] }).update s2.heap.objs.size λ_=>od).get? s2.heap.objs.size=some z:=e0
    rw [g1]at e0
    cases e0
    exact hod
   ·exact keep b z hb ((Heap.get?_push_ne _ b _ c).symm.trans ((Heap.get?_update_ne _ _ _ _ c).symm.trans e0))) ⟨_,hx'⟩ (xM hx' (hv1 rfl))
 exact⟨σ,_,Ic,q2 _ nd⟩
noncomputable def on (C:Addr) (sp:Sp) (E:XK) (t:TA):TE:=λσ H Q=>t σ H λvs H1=>∀x,H1 x=none->sp (.ref x::vs) (upd H1 x (XO C x none)) (λv H2=>v=.non/\Q (.ref x) H2) E
theorem rD {CX:CXT}{k:Nat}{f C U:Addr}{fd:FuncData}{ps:List Str}{sp:Sp}{E:XK}{pins:List (Addr × Obj)}{σ:St}{H:Hp}{s:Shared}{Q:VK}{us:List Value}{vs:List V} (T:XCls X.K C U) (hi:PySem.W.findIn X.K (.ref C) "__init__" = some (some (.ref f))) (hf:PySem.W.isFn X.K (.ref f)=true)
  (F:FnOk X.prog X.w X.K X.mg X.base CX k f fd ps sp) (hr:Room (k+1) X.A) (hb:cj X.K fd ps []) (hx:eM CX X E) (I:Inv X pins σ H s) (r:aJ vs us) (hl:us.length<=sizeLine)
  (h:∀x,H x=none->sp (.ref x::vs) (upd H x (XO C x none)) (λv H2=>v=.non/\Q (.ref x) H2) E):wpAny (model X.prog X.w) X.A (call (.ref C) us) (EP X pins σ Q) X.xe s:=by
 obtain⟨_,OT,nm,qn,N,bs,hdct,sn,sub,ab,col,dd,k0,k1,k2,k3,k5,hC⟩:=qS I.kIn T.ex
 have hq:=h (s.heap.objs.size+1) (I.hok.fresh (Nat.le_succ _))
 obtain⟨hp,g,d,t,os⟩:=s
 refine yg PySem.F.excBase_ValueError (by decide) PySem.F.excBase_ValueError OT hC (PySem.W.looks_findIn I.kIn hi) (λself=>PySem.W.bind_fn I.kIn self (beq_iff_eq.mp hf)) hl ?_
 have I2:Inv X pins σ (upd H (hp.objs.size+1) (XO C (hp.objs.size+1) none)) ⟨(hp.push { cls:=.type "tuple", data:=.seq us.toArray }).push { cls:=.ref C,data:=.fields #[.ref hp.objs.size,.none,.none,.none,.bool false,.none] },g,d,t,os⟩:=
  I.laid (h':=(hp.push { cls:=.type "tuple", data:=.seq us.toArray }).push { cls:=.ref C,data:=.fields #[.ref hp.objs.size,.none,.none,.none,.bool false,.none] }) (t':=t) (λb o e=>zH0 _ (zH0 _ e)) (Nat.le_succ _) (xM (by heap_get) rfl)
 have r2:aJ (V.ref (hp.objs.size+1)::vs) (Value.ref (hp.objs.size+1)::us):=.cons rfl r
 have hln:((Value.ref (hp.objs.size+1)::us)++[]).length=ps.length:=by
  have e:=r2.length
  rw [F.len _ _ _ _ hq]at e
  rw [List.append_nil]
  exact e.symm
 refine wpAny_call (codeAny_mono (F.run _ X.stack _ _ ⟨Value.ref (hp.objs.size+1)::us,[]⟩ (Value.ref (hp.objs.size+1)::us) _ _ E (hr.make C us []) (I2.env0.make C us []) (by have:=hb _ (Value.ref (hp.objs.size+1)::us) I2.kIn hln;rw [List.append_nil]at this;exact this) r2 hq) λrr s' hq'=>?_)
 cases rr with
 | error e=>exact hx pins σ _ _ e s' I2 hq'
 | ok fl=>
  cases fl with
  | ret u=>
   obtain⟨v,H',I3,rv,ev,q3⟩:=I2.after hq'
   subst ev
   exact⟨rv,⟨V.ref (hp.objs.size+1),H',I3,rfl,q3⟩⟩
  | next=>exact False.elim hq'
  | brk=>exact False.elim hq'
  | cont=>exact False.elim hq'
theorem uv {CX:CXT}{k:Nat}{f C U:Addr}{fd:FuncData}{ps:List Str}{sp:Sp}{E:XK}{x:Str}{p pos:Pos}{e:Expr}{es:List Expr}{t:TA} (T:XCls X.K C U) (hi:PySem.W.findIn X.K (.ref C) "__init__" = some (some (.ref f))) (hf:PySem.W.isFn X.K (.ref f)=true)
  (F:FnOk X.prog X.w X.K X.mg X.base CX k f fd ps sp) (hr:Room (k+1) X.A) (hg:Gl X x) (hm:X.mg x=some (.ref C)) (hb:cj X.K fd ps []) (hx:eM CX X E) (hsm:∀vs H Q E,sp vs H Q E->vs.length<=100)
  (ha:PA X (e::es) t) (hdb:(x == ("__debug__" : Str))=false:=by decide) (he:starEach (e::es) X.env=(false,eval e X.env)::starEach es X.env:=by rfl) (hpl:(backTo pos (starEach es X.env)).any (·.1)=false:=by rfl) :
  PE X (.Call (.Name x p) (e::es) [] pos) (on C sp E t):=by
 intro pins s σ H Q I h
 refine wpAny_Call_Name_kw (fV I hg hm ?_ hdb)
 refine PySem.W.callWith_K (h₀:=X.base) I.ok.mod.kin T.kp (thn (ha pos pins s σ H _ I h) λus s1 ⟨vs,H1,I1,r,q⟩=>⟨I1.kIn,?_⟩) he hpl
 have hl:us.length<=sizeLine:=by
  have e1:=hsm _ _ _ _ (q _ (I1.hok.fresh (Nat.le_refl _)))
  rw [List.length_cons]at e1
  have e2:=r.length
  exact Nat.le_trans (show us.length<=100 by omega) (by decide)
 exact rD T hi hf F hr hb hx I1 r hl q
end
structure FunD (K:PySem.W.Frag) (x qual:Str) (st:Stmt) (dV:Value) (f:Addr) (fd:FuncData):Prop where
 ex:∃(oc:Value) (od:Option Addr) (kV doc pm:Value) (an:Option Addr) (cdv ct:Value) (osl:Array (Option Value)),
  fd=PySem.W.fnOf x qual (cC st) (bW st) (al st) dV kV doc pm an cdv ct/\K.lookup f=some ⟨oc,od,.func fd,osl⟩/\PySem.W.codeIn K cdv qual=true
 kp:PySem.W.keepIn K (.ref f)=true
section
variable {P:Program}{w:World}{K:W.Frag}{mg:Str->Option Value}{base:Heap}
theorem FunD.ok {x qual:Str}{st:Stmt}{dV:Value}{f:Addr}{fd:FuncData}{N ps:List Str}{k:Nat}{sp:Sp} (F:FunD K x qual st dV f fd) (S:FnScope N ps (al st)) (len:∀vs H Q E,sp vs H Q E->vs.length=ps.length)
  (body:∀(cdv:Value) (A:Around) (outer:List Env) (s:Shared) (H:Hp) (vs:List V) (Q:VK) (E:XK),Room k (A.deeper (envOfC qual (al st) s.heap.objs.size f cdv))->sp vs H Q E->
   ∃t,PSs (fm CX0 P w K mg base N qual (al st) f cdv A outer s H E).nox (bW st) t/\t { nx:=λ_ H'=>Q .non H',rt:=Q } (dM N vs) H):FnOk P w K mg base CX0 (k+1) f fd ps sp:=by
 obtain⟨oc,od,kV,doc,pm,an,cdv,ct,osl,rfl,lk,hcd⟩:=F.ex
 refine o0 lk hcd S len λA outer s H vs Q E hr hsp=>?_
 obtain⟨t,h,q⟩:=body cdv A outer s H vs Q E hr hsp
 exact⟨t,h.nox,q⟩
theorem FunD.mk' {x qual:Str}{st:Stmt}{dV:Value}{f:Addr}{oc:Value}{od an:Option Addr}{osl:Array (Option Value)}{kV doc pm cdv ct:Value} (l:K.lookup f=some ⟨oc,od,.func (PySem.W.fnOf x qual (cC st) (bW st) (al st) dV kV doc pm an cdv ct),osl⟩)
  (c:PySem.W.codeIn K cdv qual=true) (k:PySem.W.keepIn K (.ref f)=true):FunD K x qual st dV f (PySem.W.fnOf x qual (cC st) (bW st) (al st) dV kV doc pm an cdv ct):=⟨⟨oc,od,kV,doc,pm,an,cdv,ct,osl,rfl,l,c⟩,k⟩
theorem FunD.binds {x qual:Str}{st:Stmt}{T:Addr}{o:Obj}{n:Nat}{f:Addr}{fd:FuncData}{ps:List Str}{ds us0:List Value} (F:FunD K x qual st (.ref T) f fd) (ho:K.lookup T=some o) (hs:o.data=.seq #[Value.none] n)
  (h:∀(kV doc pm:Value) (an:Option Addr) (cdv ct:Value) (us:List Value),(us++ds).length=ps.length->∃k,bindArgs (PySem.W.fnOf x qual (cC st) (bW st) (al st) (.ref T) kV doc pm an cdv ct) ⟨us,[]⟩=seqItems? (.ref T) >>= k/\k (some #[Value.none])=pure (ps.zip (us++ds))):cj K fd ps ds:=by
 obtain⟨oc,od,kV,doc,pm,an,cdv,ct,osl,rfl,lk,hcd⟩:=F.ex
 intro s us X hl
 obtain⟨k,h1,h2⟩:=h kV doc pm an cdv ct us hl
 exact PySem.W.binds_K X rfl ho hs h1 h2
end
noncomputable abbrev Fnd:=Str × Int × Int × Int × Int
noncomputable def lH (r:Fnd):List V:=[.str r.1,.int r.2.1,.int r.2.2.1,.int r.2.2.2.1,.int r.2.2.2.2]
noncomputable abbrev iG:=Str × Int
noncomputable def sY (d:iG):List V:=[.str d.1,.int d.2]
structure Bk where
 ks:List Str
 fs:List Fnd
 gs:List (Key × V)
 ds:List iG
noncomputable def dr (gs:List (Key × V)) (n:Nat):Int:=match valV gs (Sum.inl (n:Int)) with
 | some (.int t)=>t
 | _=>99
noncomputable def cN (gs:List (Key × V)) (k:Str) (t d:Int) (n:Nat) (f:Fnd):Bool:=decide (f.1=k) && (decide (f.2.2.2.2<=t) && (decide (t < dr gs n) && (decide (f.2.1<=d) && decide (d<=f.2.2.1))))
noncomputable def c7 (fs:List Fnd) (c:Nat->Fnd->Bool):Nat->Option Int
 | 0=>none
 | i+1=>match fs[i]? with
  | some f=>if c i f=true then some (i:Int) else c7 fs c i
  | none=>c7 fs c i
noncomputable def Bk.spk (B:Bk) (k:Str) (t d:Int):Option Int:=c7 B.fs (cN B.gs k t d) B.fs.length
theorem cK {fs gs:List Fnd}{c c':Nat->Fnd->Bool}:∀{i:Nat},(∀j,j < i->fs[j]?=gs[j]?)->(∀j f,j < i->fs[j]?=some f->c j f=c' j f)->c7 fs c i=c7 gs c' i
 | 0,_,_=>rfl
 | i+1,h,g=>by
  unfold c7
  rw [<- h i (Nat.lt_succ_self i)]
  have ih:=cK (i:=i) (λj hj=>h j (Nat.lt_succ_of_lt hj)) λj f hj e=>g j f (Nat.lt_succ_of_lt hj) e
  cases e:fs[i]? with
  | none=>exact ih
  | some f=>
   dsimp only
   rw [g i f (Nat.lt_succ_self i) e,ih]
theorem jK (fs:List Fnd) (f:Fnd) (c:Nat->Fnd->Bool):c7 (fs++[f]) c (fs++[f]).length=if c fs.length f=true then some (fs.length:Int) else c7 fs c fs.length:=by
 rw [List.length_append]
 show c7 (fs++[f]) c (fs.length+1)=_
 conv=>lhs;unfold c7
 have e:(fs++[f])[fs.length]?=some f:=by simp
 rw [e]
 dsimp only
 rw [cK (fs:=fs++[f]) (gs:=fs) (c:=c) (c':=c) (λj hj=>by rw [List.getElem?_append_left hj]) λ_ _ _ _=>rfl]
theorem jL {fs:List Fnd}{c:Nat->Fnd->Bool}:∀{i:Nat}{n:Int},c7 fs c i=some n->∃(j:Nat) (f:Fnd),n=(j:Int)/\j < i/\fs[j]?=some f/\c j f=true
 | 0,_,h=>by cases h
 | i+1,n,h=>by
  unfold c7 at h
  cases e:fs[i]? with
  | none=>
   rw [e]at h
   obtain⟨j,f,a,b,c1,d⟩:=jL (i:=i) h
   exact⟨j,f,a,Nat.lt_succ_of_lt b,c1,d⟩
  | some f=>
   rw [e]at h
   dsimp only at h
   by_cases hc:c i f=true
   ·rw [if_pos hc]at h
    cases h
    exact⟨i,f,rfl,Nat.lt_succ_self i,e,hc⟩
   ·rw [if_neg hc]at h
    obtain⟨j,f',a,b,c1,d⟩:=jL (i:=i) h
    exact⟨j,f',a,Nat.lt_succ_of_lt b,c1,d⟩
structure Bk.Ok (B:Bk):Prop where
 nd:B.ks.Nodup
 k1:1<=B.ks.length
 k8:B.ks.length<=8
 nm:∀k∈B.ks,Nm k
 fin:∀f∈B.fs,f.1∈B.ks/\0<=f.2.1/\f.2.1<=f.2.2.1/\f.2.2.1 < 400/\1<=f.2.2.2.2/\f.2.2.2.2<=B.ds.length
 gin:∀n v,valV B.gs n=some v->∃(i:Nat) (t:Int),n=Sum.inl (i:Int)/\v=.int t/\i < B.fs.length/\1<=t/\t<=B.ds.length
 gsz:B.gs.length<=B.ds.length
 fsz:B.fs.length<=B.ds.length
 dsz:B.ds.length<=60
 dw:∀d∈B.ds,Nm d.1
 cf:(B.ds.filter λd=>decide (d.1=‹"find"›)).length=B.fs.length
noncomputable def Bk.new (ks:List Str):Bk:=⟨ks,[],[],[]⟩
theorem Bk.new_ok {ks:List Str} (nd:ks.Nodup) (k1:1<=ks.length) (k8:ks.length<=8) (nm:∀k∈ks,Nm k):(Bk.new ks).Ok:=
 ⟨nd,k1,k8,nm,(λ_ h=>nomatch h),λn v h=>by simp [Bk.new,valV]at h,Nat.le_refl _,Nat.le_refl _,Nat.zero_le _,(λ_ h=>nomatch h),rfl⟩
noncomputable def iJ:Str:=‹"find"›
noncomputable def gp:Str:=‹"withdraw"›
noncomputable def Bk.find (B:Bk) (k:Str) (f l v:Int):Bk:=⟨B.ks,B.fs++[(k,f,l,v,(B.ds.length:Int)+1)],B.gs,B.ds++[(iJ,(B.fs.length:Int))]⟩
noncomputable def Bk.withd (B:Bk) (n:Nat):Bk:=⟨B.ks,B.fs,cF B.gs (Sum.inl (n:Int)) (.int ((B.ds.length:Int)+1)),B.ds++[(gp,(n:Int))]⟩
theorem Bk.Ok.find {B:Bk} (O:B.Ok){k:Str}{f l v:Int} (hk:k∈B.ks) (h0:0<=f) (h1:f<=l) (h2:l < 400) (hr:B.ds.length < 60):(B.find k f l v).Ok:=by
 have el:((B.find k f l v).ds.length:Int)=(B.ds.length:Int)+1:=by simp [Bk.find]
 have elf:(B.find k f l v).fs.length=B.fs.length+1:=by simp [Bk.find]
 have eld:(B.find k f l v).ds.length=B.ds.length+1:=by simp [Bk.find]
 refine⟨O.nd,O.k1,O.k8,O.nm,λx hx=>?_,λn v' e=>?_,?_,?_,?_,λd hd=>?_,?_⟩
 ·rcases List.mem_append.mp (show x∈B.fs++[(k,f,l,v,(B.ds.length:Int)+1)] from hx) with hx | hx
  ·obtain⟨a,b,c,d,e,g⟩:=O.fin x hx
   exact⟨a,b,c,d,e,by rw [el];omega⟩
  ·rw [List.mem_singleton.mp hx,el]
   exact⟨hk,h0,h1,h2,by show 1<=(B.ds.length:Int)+1;omega,Int.le_refl _⟩
 ·obtain⟨i,t,a,b,c,d,e'⟩:=O.gin n v' e
  exact⟨i,t,a,b,by omega,d,by rw [el];omega⟩
 ·rw [eld];exact Nat.le_succ_of_le O.gsz
 ·rw [elf,eld];exact Nat.succ_le_succ O.fsz
 ·rw [eld];exact hr
 ·rcases List.mem_append.mp hd with hd | hd
  ·exact O.dw d hd
  ·rw [List.mem_singleton.mp hd]
   show (iJ.cps.all (· < 0x110000))=true
   decide +kernel
 ·rw [elf]
  show ((B.ds++[(iJ,(B.fs.length:Int))]).filter _).length=_
  rw [List.filter_append,List.length_append,O.cf]
  rfl
theorem Bk.Ok.withd {B:Bk} (O:B.Ok){n:Nat} (hn:n < B.fs.length) (hr:B.ds.length < 60):(B.withd n).Ok:=by
 have el:((B.withd n).ds.length:Int)=(B.ds.length:Int)+1:=by simp [Bk.withd]
 have eld:(B.withd n).ds.length=B.ds.length+1:=by simp [Bk.withd]
 refine⟨O.nd,O.k1,O.k8,O.nm,λx hx=>?_,λm v' e=>?_,?_,?_,?_,λd hd=>?_,?_⟩
 ·obtain⟨a,b,c,d,e,g⟩:=O.fin x hx
  exact⟨a,b,c,d,e,by rw [el];omega⟩
 ·have e':valV (cF B.gs (Sum.inl (n:Int)) (.int ((B.ds.length:Int)+1))) m=some v':=e
  rw [fo]at e'
  split at e'
  ·rename_i hm
   cases e'
   exact⟨n,_,hm,rfl,hn,by omega,by rw [el];exact Int.le_refl _⟩
  ·obtain⟨i,t,a,b,c,d,g⟩:=O.gin m v' e'
   exact⟨i,t,a,b,c,d,by rw [el];omega⟩
 ·rw [eld]
  exact Nat.le_trans (dq _ _ _) (Nat.succ_le_succ O.gsz)
 ·rw [eld];exact Nat.le_succ_of_le O.fsz
 ·rw [eld];exact hr
 ·rcases List.mem_append.mp hd with hd | hd
  ·exact O.dw d hd
  ·rw [List.mem_singleton.mp hd]
   show (gp.cps.all (· < 0x110000))=true
   decide +kernel
 ·show ((B.ds++[(gp,(n:Int))]).filter _).length=_
  rw [List.filter_append,List.length_append,O.cf,show ([(gp,(n:Int))].filter λd:iG=>decide (d.1=‹"find"›))=[] from by rw [List.filter_cons,show decide (gp=‹"find"›)=false from ‹0›];rfl]
  rfl
theorem Bk.Ok.gone {B:Bk} (O:B.Ok) (n:Nat):(valV B.gs (Sum.inl (n:Int))=none/\dr B.gs n=99)\/∃t:Int,valV B.gs (Sum.inl (n:Int))=some (.int t)/\dr B.gs n=t/\1<=t/\t<=B.ds.length:=by
 cases e:valV B.gs (Sum.inl (n:Int)) with
 | none=>exact .inl ⟨rfl,by unfold dr;rw [e]⟩
 | some v=>
  obtain⟨i,t,a,rfl,c,d,g⟩:=O.gin _ v e
  exact .inr ⟨t,rfl,by unfold dr;rw [e],d,g⟩
theorem Bk.Ok.find_old {B:Bk} (O:B.Ok){k:Str}{f l v:Int}{t:Int} (ht:t<=B.ds.length) (key:Str) (d:Int):(B.find k f l v).spk key t d=B.spk key t d:=by
 unfold Bk.spk Bk.find
 rw [jK]
 have:cN B.gs key t d B.fs.length (k,f,l,v,(B.ds.length:Int)+1)=false:=by
  unfold cN
  rw [decide_eq_false (show ¬(B.ds.length:Int)+1<=t by omega)]
  simp
 rw [this]
 rfl
theorem Bk.Ok.find_now {B:Bk} (O:B.Ok){k:Str}{f l v:Int} (key:Str) (d:Int) :
  (B.find k f l v).spk key ((B.ds.length:Int)+1) d=if k=key/\f<=d/\d<=l then some (B.fs.length:Int) else B.spk key B.ds.length d:=by
 have z:=O.dsz
 unfold Bk.spk Bk.find
 rw [jK]
 have g0:dr B.gs B.fs.length=99:=by
  rcases O.gone B.fs.length with⟨_,e⟩ | ⟨t,e,_⟩
  ·exact e
  ·obtain⟨i,t',a,b,c,_⟩:=O.gin _ _ e
   have:(B.fs.length:Int)=(i:Int):=Sum.inl.inj a
   omega
 have e1:cN B.gs key ((B.ds.length:Int)+1) d B.fs.length (k,f,l,v,(B.ds.length:Int)+1)=decide (k=key/\f<=d/\d<=l):=by
  unfold cN
  rw [g0,decide_eq_true (show (B.ds.length:Int)+1<=(B.ds.length:Int)+1 from Int.le_refl _),decide_eq_true (show (B.ds.length:Int)+1 < 99 by omega),Bool.eq_iff_iff]
  simp
 have e2:c7 B.fs (cN B.gs key ((B.ds.length:Int)+1) d) B.fs.length=c7 B.fs (cN B.gs key B.ds.length d) B.fs.length:=cK (λ_ _=>rfl) λj x hj e=>by
  obtain⟨_,_,_,_,_,tl⟩:=O.fin x (List.mem_of_getElem? e)
  unfold cN
  have a1:decide (x.2.2.2.2<=(B.ds.length:Int)+1)=decide (x.2.2.2.2<=(B.ds.length:Int)):=by rw [decide_eq_true (show x.2.2.2.2<=(B.ds.length:Int)+1 by omega),decide_eq_true tl]
  have a2:decide ((B.ds.length:Int)+1 < dr B.gs j)=decide ((B.ds.length:Int) < dr B.gs j):=by
   rcases O.gone j with⟨_,e⟩ | ⟨t,_,e,_,_⟩
   ·rw [e,decide_eq_true (show (B.ds.length:Int)+1 < 99 by omega),decide_eq_true (show (B.ds.length:Int) < 99 by omega)]
   ·rw [e,decide_eq_false (show ¬(B.ds.length:Int)+1 < t by omega),decide_eq_false (show ¬(B.ds.length:Int) < t by omega)]
  rw [a1,a2]
 rw [e1,e2]
 by_cases hc:k=key/\f<=d/\d<=l
 ·rw [if_pos hc,if_pos (decide_eq_true hc)]
 ·rw [if_neg hc,if_neg (by rw [decide_eq_false hc];decide)]
theorem sw (gs:List (Key × V)) (n j:Nat) (t:Int):dr (cF gs (Sum.inl (n:Int)) (.int t)) j=if j=n then t else dr gs j:=by
 unfold dr
 rw [fo]
 by_cases h:j=n
 ·subst h;rw [if_pos rfl,if_pos rfl]
 ·rw [if_neg (λz=>h (by have:=Sum.inl.inj z;omega)),if_neg h]
theorem Bk.Ok.withd_old {B:Bk} (O:B.Ok){n:Nat} (hg:valV B.gs (Sum.inl (n:Int))=none){t:Int} (ht:t<=B.ds.length) (key:Str) (d:Int):(B.withd n).spk key t d=B.spk key t d:=by
 have z:=O.dsz
 unfold Bk.spk Bk.withd
 refine cK (λ_ _=>rfl) λj x hj e=>?_
 unfold cN
 have a2:decide (t < dr (cF B.gs (Sum.inl (n:Int)) (.int ((B.ds.length:Int)+1))) j)=decide (t < dr B.gs j):=by
  rw [sw]
  by_cases h:j=n
  ·subst h
   have g0:dr B.gs j=99:=by unfold dr;rw [hg]
   rw [if_pos rfl,g0,decide_eq_true (show t < (B.ds.length:Int)+1 by omega),decide_eq_true (show t < 99 by omega)]
  ·rw [if_neg h]
 rw [a2]
noncomputable def kj (gs:List (Key × V)) (k:Str) (d:Int) (n:Nat) (f:Fnd):Bool:=decide (f.1=k) && ((valV gs (Sum.inl (n:Int))).isNone && (decide (f.2.1<=d) && decide (d<=f.2.2.1)))
theorem Bk.Ok.now {B:Bk} (O:B.Ok) (key:Str) (d:Int):B.spk key B.ds.length d=c7 B.fs (kj B.gs key d) B.fs.length:=by
 have z:=O.dsz
 unfold Bk.spk
 refine cK (λ_ _=>rfl) λj x hj e=>?_
 obtain⟨_,_,_,_,_,tl⟩:=O.fin x (List.mem_of_getElem? e)
 unfold cN kj
 rw [decide_eq_true tl]
 rcases O.gone j with⟨e1,e2⟩ | ⟨t,e1,e2,_,_⟩
 ·rw [e1,e2,decide_eq_true (show (B.ds.length:Int) < 99 by omega)];rfl
 ·rw [e1,e2,decide_eq_false (show ¬(B.ds.length:Int) < t by omega)];rfl
theorem Bk.Ok.withd_other {B:Bk} (O:B.Ok){n:Nat}{f:Fnd} (hf:B.fs[n]?=some f) (hr:B.ds.length < 60){key:Str} (hk:key≠f.1) (d:Int):(B.withd n).spk key ((B.ds.length:Int)+1) d=B.spk key B.ds.length d:=by
 have O':=O.withd (List.getElem?_eq_some_iff.mp hf).1 hr
 have el:((B.withd n).ds.length:Int)=(B.ds.length:Int)+1:=by simp [Bk.withd]
 rw [<- el,O'.now,O.now]
 refine cK (λ_ _=>rfl) λj x hj e=>?_
 unfold kj
 by_cases h:j=n
 ·subst h
  have e':B.fs[j]?=some x:=e
  rw [hf]at e'
  cases e'
  rw [decide_eq_false (λz=>hk z.symm)]
  rfl
 ·have:valV (B.withd n).gs (Sum.inl (j:Int))=valV B.gs (Sum.inl (j:Int)):=by
   show valV (cF _ _ _) _=_
   rw [fo,if_neg (λz=>h (by have:=Sum.inl.inj z;omega))]
  rw [this]
def cy (rs:List aY):Prop:=∀r∈rs,0<=r.1/\r.1<=r.2.1/\r.2.1 < 400
theorem cy.snoc {cs:List aY}{r:aY} (h:cy cs) (h1:0<=r.1) (h2:r.1<=r.2.1) (h3:r.2.1 < 400):cy (cs++[r]):=λc hc=>by
 rcases List.mem_append.mp hc with hc | hc
 ·exact h c hc
 ·rw [List.mem_singleton.mp hc];exact⟨h1,h2,h3⟩
structure BA where
 n:Addr
 f:Addr
 w:Addr
 d:Addr
 t:Addr
noncomputable def cX (a:BA):List (Str × V):=[("names", V.ref a.n),("findings", V.ref a.f),("withdrawals", V.ref a.w),("deeds", V.ref a.d),("tables", V.ref a.t)]
theorem AQ (a:BA):(cX a).lookup ("names" : Str)=some (.ref a.n):=rfl
theorem gF {x y:Str} (h:decide (x=y)=false):(x == y)=false:=by
 have:¬x=y:=of_decide_eq_false h
 simpa [beq_eq_false_iff_ne] using this
theorem pM (a:BA):(cX a).lookup ("findings" : Str)=some (.ref a.f):=by
 unfold cX
 rw [List.lookup_cons,gF ‹0›]
 rfl
theorem xI (a:BA):(cX a).lookup ("withdrawals" : Str)=some (.ref a.w):=by
 unfold cX
 rw [List.lookup_cons,gF ‹0›,List.lookup_cons,gF ‹0›]
 rfl
theorem zO (a:BA):(cX a).lookup ("deeds" : Str)=some (.ref a.d):=by
 unfold cX
 rw [List.lookup_cons,gF ‹0›,List.lookup_cons,gF ‹0›,List.lookup_cons,gF ‹0›]
 rfl
theorem xJ (a:BA):(cX a).lookup ("tables" : Str)=some (.ref a.t):=by
 unfold cX
 rw [List.lookup_cons,gF ‹0›,List.lookup_cons,gF ‹0›,List.lookup_cons,gF ‹0›,List.lookup_cons,gF ‹0›]
 rfl
theorem bU (a:BA){m:Str} (h1:decide (m = "names")=false) (h2:decide (m = "findings")=false) (h3:decide (m = "withdrawals")=false) (h4:decide (m = "deeds")=false) (h5:decide (m = "tables")=false):(cX a).lookup m=none:=by
 unfold cX
 rw [List.lookup_cons,gF h1,List.lookup_cons,gF h2,List.lookup_cons,gF h3,List.lookup_cons,gF h4,List.lookup_cons,gF h5]
 rfl
theorem zN (a:BA):aX "tables" (.ref a.t) (aX "deeds" (.ref a.d) (aX "withdrawals" (.ref a.w) (aX "findings" (.ref a.f) (aX "names" (.ref a.n) []))))=cX a:=by
 have e1:¬(("names" : Str) = "findings"):=‹0›
 have e2:¬(("names" : Str) = "withdrawals"):=‹0›
 have e3:¬(("findings" : Str) = "withdrawals"):=‹0›
 have e4:¬(("names" : Str) = "deeds"):=‹0›
 have e5:¬(("findings" : Str) = "deeds"):=‹0›
 have e6:¬(("withdrawals" : Str) = "deeds"):=‹0›
 have e7:¬(("names" : Str) = "tables"):=‹0›
 have e8:¬(("findings" : Str) = "tables"):=‹0›
 have e9:¬(("withdrawals" : Str) = "tables"):=‹0›
 have e10:¬(("deeds" : Str) = "tables"):=‹0›
 simp only [aX,cX,e1,e2,e3,e4,e5,e6,e7,e8,e9,e10,if_false]
def BA.M (a:BA) (b:Addr):Prop:=b=a.f\/b=a.w\/b=a.d\/b=a.t
structure RowT (H:Hp) (a:BA) (F:Addr->Prop) (B:Bk) (ra:Addr) (rs:List aY) (k:Str) (i:Nat):Prop where
 fp:F ra
 nm:¬a.M ra
 rl:bu H ra rs
 td:Strip.Tidy rs
 i4:cy rs
 dy:∀x,Strip.dayOf rs x=(B.spk k i x).map V.int
structure TabAt (H:Hp) (a:BA) (F:Addr->Prop) (B:Bk) (x:Addr) (i:Nat):Prop where
 fp:F x
 nm:¬a.M x
 ex:∃kvs:List (Key × V),H x=some (.dK kvs)/\kvs.length<=8+i/\∀k∈B.ks,∃ra rs,valV kvs (Sum.inr k)=some (.ref ra)/\RowT H a F B ra rs k i
noncomputable abbrev mH (H:Hp):List Addr->List Fnd->Prop:=Paired λp r=>H p=some (.tup (lH r))
noncomputable abbrev fk (H:Hp):List Addr->List iG->Prop:=Paired λp r=>H p=some (.tup (sY r))
structure BkAt (C:Addr) (H:Hp) (p:Addr) (a:BA) (F:Addr->Prop) (B:Bk):Prop where
 ob:∃dx,H p=some (.ins C dx (cX a))
 hn:H a.n=some (.lst (B.ks.map V.str))
 hf:∃ps,H a.f=some (.lst (ps.map V.ref))/\mH H ps B.fs
 hw:H a.w=some (.dK B.gs)
 hd:∃ps,H a.d=some (.lst (ps.map V.ref))/\fk H ps B.ds
 ht:∃ts:List Addr,H a.t=some (.lst (ts.map V.ref))/\ts.length=B.ds.length+1/\∀(i:Nat) (x:Addr),ts[i]?=some x->TabAt H a F B x i
 fa:F a.n/\F a.f/\F a.w/\F a.d/\F a.t
 nn:¬a.M a.n
 fd:a.f≠a.d
 ft:a.f≠a.t
 dt:a.d≠a.t
 ok:B.Ok
structure Keep (H H':Hp) (F:Addr->Prop):Prop where
 own:∀b o,F b->H b=some o->H' b=some o
 tup:∀b xs,H b=some (.tup xs)->H' b=some (.tup xs)
 ins:∀b C dx fs,H b=some (.ins C dx fs)->H' b=some (.ins C dx fs)
theorem RowT.keep {H H':Hp}{a:BA}{F:Addr->Prop}{B:Bk}{ra:Addr}{rs:List aY}{k:Str}{i:Nat} (h:RowT H a F B ra rs k i) (g:Keep H H' F):RowT H' a F B ra rs k i:=
 ⟨h.fp,h.nm,cZ h.rl (λxs e=>g.own _ _ h.fp e) g.tup,h.td,h.i4,h.dy⟩
theorem TabAt.keep {H H':Hp}{a:BA}{F:Addr->Prop}{B:Bk}{x:Addr}{i:Nat} (h:TabAt H a F B x i) (g:Keep H H' F):TabAt H' a F B x i:=by
 obtain⟨kvs,e,hl,hk⟩:=h.ex
 refine⟨h.fp,h.nm,kvs,g.own _ _ h.fp e,hl,λk hk'=>?_⟩
 obtain⟨ra,rs,e1,e2⟩:=hk k hk'
 exact⟨ra,rs,e1,e2.keep g⟩
theorem mH.keep {H H':Hp}{F:Addr->Prop} (g:Keep H H' F){ps:List Addr}{fs:List Fnd} (h:mH H ps fs):mH H' ps fs:=Paired.mapP h λ_ _ e=>g.tup _ _ e
theorem fk.keep {H H':Hp}{F:Addr->Prop} (g:Keep H H' F){ps:List Addr}{fs:List iG} (h:fk H ps fs):fk H' ps fs:=Paired.mapP h λ_ _ e=>g.tup _ _ e
theorem BkAt.keep {C:Addr}{H H':Hp}{p:Addr}{a:BA}{F:Addr->Prop}{B:Bk} (h:BkAt C H p a F B) (g:Keep H H' F):BkAt C H' p a F B:=by
 obtain⟨f1,f2,f3,f4,f5⟩:=h.fa
 obtain⟨dx,e0⟩:=h.ob
 obtain⟨ps,e1,r1⟩:=h.hf
 obtain⟨qs,e2,r2⟩:=h.hd
 obtain⟨ts,e3,l3,r3⟩:=h.ht
 exact⟨⟨dx,g.ins _ _ _ _ e0⟩,g.own _ _ f1 h.hn,⟨ps,g.own _ _ f2 e1,r1.keep g⟩,g.own _ _ f3 h.hw,⟨qs,g.own _ _ f4 e2,r2.keep g⟩,⟨ts,g.own _ _ f5 e3,l3,λi x e=>(r3 i x e).keep g⟩,h.fa,h.nn,h.fd,h.ft,h.dt,h.ok⟩
theorem BkAt.tab {C:Addr}{H:Hp}{p:Addr}{a:BA}{F:Addr->Prop}{B:Bk} (h:BkAt C H p a F B){i:Nat} (hi:i<=B.ds.length){k:Str} (hk:k∈B.ks) :
  ∃(ts:List Addr) (x:Addr) (kvs:List (Key × V)) (ra:Addr) (rs:List aY),H a.t=some (.lst (ts.map V.ref))/\ts[i]?=some x/\H x=some (.dK kvs)/\valV kvs (Sum.inr k)=some (.ref ra)/\RowT H a F B ra rs k i/\ts.length=B.ds.length+1:=by
 obtain⟨ts,e3,l3,r3⟩:=h.ht
 have hx:ts[i]?=some ts[i]:=List.getElem?_eq_getElem ‹1›
 obtain⟨kvs,e,_,q⟩:=(r3 i _ hx).ex
 obtain⟨ra,rs,e1,e2⟩:=q k hk
 exact⟨ts,ts[i],kvs,ra,rs,e3,hx,e,e1,e2,l3⟩
theorem jc {H:Hp}{ps:List Addr}{fs:List Fnd} (h:mH H ps fs){i:Nat}{f:Fnd} (e:fs[i]?=some f):∃q,ps[i]?=some q/\H q=some (.tup (lH f)):=by
 have hl:ps.length=fs.length:=Paired.length h
 have hi:i < ps.length:=by rw [hl];exact(List.getElem?_eq_some_iff.mp e).1
 have eq:ps[i]?=some ps[i]:=List.getElem?_eq_getElem hi
 obtain⟨r,e1,e2⟩:=c9 h eq
 rw [e]at e1
 cases e1
 exact⟨_,eq,e2⟩
theorem vS {H:Hp}{ps:List Addr}{fs:List iG} (h:fk H ps fs){i:Nat}{f:iG} (e:fs[i]?=some f):∃q,ps[i]?=some q/\H q=some (.tup (sY f)):=by
 have hl:ps.length=fs.length:=Paired.length h
 have hi:i < ps.length:=by rw [hl];exact(List.getElem?_eq_some_iff.mp e).1
 have eq:ps[i]?=some ps[i]:=List.getElem?_eq_getElem hi
 obtain⟨r,e1,e2⟩:=c9 h eq
 rw [e]at e1
 cases e1
 exact⟨_,eq,e2⟩
structure BkT (C:Addr) (H:Hp) (p:Addr) (a:BA) (F:Addr->Prop) (B:Bk):Prop where
 ob:∃dx,H p=some (.ins C dx (cX a))
 hn:H a.n=some (.lst (B.ks.map V.str))
 hd:∃ps,H a.d=some (.lst (ps.map V.ref))/\fk H ps B.ds
 ht:∃ts:List Addr,H a.t=some (.lst (ts.map V.ref))/\ts.length=B.ds.length+1/\∀(i:Nat) (x:Addr),ts[i]?=some x->TabAt H a F B x i
theorem BkAt.toT {C:Addr}{H:Hp}{p:Addr}{a:BA}{F:Addr->Prop}{B:Bk} (h:BkAt C H p a F B):BkT C H p a F B:=⟨h.ob,h.hn,h.hd,h.ht⟩
theorem BkT.tab {C:Addr}{H:Hp}{p:Addr}{a:BA}{F:Addr->Prop}{B:Bk} (h:BkT C H p a F B){i:Nat} (hi:i<=B.ds.length){k:Str} (hk:k∈B.ks) :
  ∃(ts:List Addr) (x:Addr) (kvs:List (Key × V)) (ra:Addr) (rs:List aY),H a.t=some (.lst (ts.map V.ref))/\ts[i]?=some x/\H x=some (.dK kvs)/\valV kvs (Sum.inr k)=some (.ref ra)/\RowT H a F B ra rs k i/\ts.length=B.ds.length+1:=by
 obtain⟨ts,e3,l3,r3⟩:=h.ht
 have hx:ts[i]?=some ts[i]:=List.getElem?_eq_getElem ‹1›
 obtain⟨kvs,e,_,q⟩:=(r3 i _ hx).ex
 obtain⟨ra,rs,e1,e2⟩:=q k hk
 exact⟨ts,ts[i],kvs,ra,rs,e3,hx,e,e1,e2,l3⟩
structure KeepM (H H':Hp) (a:BA):Prop where
 own:∀b o,¬a.M b->H b=some o->H' b=some o
theorem KeepM.tup {H H':Hp}{a:BA} (g:KeepM H H' a) (M:∀b xs,H b=some (.tup xs)->¬a.M b):∀b xs,H b=some (.tup xs)->H' b=some (.tup xs):=λb xs e=>g.own b _ (M b xs e) e
theorem RowT.keepM {H H':Hp}{a:BA}{F:Addr->Prop}{B:Bk}{ra:Addr}{rs:List aY}{k:Str}{i:Nat} (h:RowT H a F B ra rs k i) (g:KeepM H H' a) (M:∀b xs,H b=some (.tup xs)->¬a.M b):RowT H' a F B ra rs k i:=
 ⟨h.fp,h.nm,cZ h.rl (λxs e=>g.own _ _ h.nm e) (g.tup M),h.td,h.i4,h.dy⟩
theorem TabAt.keepM {H H':Hp}{a:BA}{F:Addr->Prop}{B:Bk}{x:Addr}{i:Nat} (h:TabAt H a F B x i) (g:KeepM H H' a) (M:∀b xs,H b=some (.tup xs)->¬a.M b):TabAt H' a F B x i:=by
 obtain⟨kvs,e,hl,hk⟩:=h.ex
 refine⟨h.fp,h.nm,kvs,g.own _ _ h.nm e,hl,λk hk'=>?_⟩
 obtain⟨ra,rs,e1,e2⟩:=hk k hk'
 exact⟨ra,rs,e1,e2.keepM g M⟩
theorem TabAt.other {H:Hp}{a:BA}{F F':Addr->Prop}{B B':Bk}{x:Addr}{i:Nat} (h:TabAt H a F B x i) (hF:∀b,F b->F' b) (ek:B'.ks=B.ks) (es:∀k d,B'.spk k i d=B.spk k i d):TabAt H a F' B' x i:=by
 obtain⟨kvs,e,hl,hk⟩:=h.ex
 refine⟨hF _ h.fp,h.nm,kvs,e,hl,λk hk'=>?_⟩
 obtain⟨ra,rs,e1,e2⟩:=hk k (by rw [<- ek];exact hk')
 exact⟨ra,rs,e1,hF _ e2.fp,e2.nm,e2.rl,e2.td,e2.i4,λx=>by rw [es];exact e2.dy x⟩
structure MC (P:Program) (w:World) (K:PySem.W.Frag) (mg:Str->Option Value) (base:Heap) (C:Addr) (m:Str) (k:Nat) (ps:List Str) (ds:List Value) (dvs:List V) (sp:Sp) (f:Addr) (fd:FuncData):Prop where
 cl:Cls K C
 mt:Meth K C m f
 ok:FnOk P w K mg base CX0 k f fd ps sp
 bd:cj K fd ps ds
 dv:aJ dvs ds
structure BkC (K:PySem.W.Frag) (C:Addr):Prop where
 cl:Cls K C
 n1:NoAttr K C "names"
 n2:NoAttr K C "findings"
 n3:NoAttr K C "withdrawals"
 n4:NoAttr K C "deeds"
 n5:NoAttr K C "tables"
theorem gW {rs:List aY} (u:Strip.Rising rs) (i:cy rs):rs.length<=400:=by
 have key:∀(n:Nat) (rs:List aY) (lo:Int),rs.length=n->Strip.Rising rs->(∀r∈rs,lo<=r.1/\r.2.1 < 400)->(n:Int)<=max 0 (400 - lo):=by
  intro n
  induction n with
  | zero=>intro rs lo _ _ _;omega
  | succ n ih=>
   intro rs lo hl u h
   cases rs with
   | nil=>simp at hl
   | cons r t=>
    have hr:=h r List.mem_cons_self
    have hle:=u.le r List.mem_cons_self
    have:=ih t (r.2.1+1) (by simpa using hl) ⟨(List.pairwise_cons.mp u.lt).2,λx hx=>u.le x (List.mem_cons_of_mem _ hx)⟩ λx hx=>⟨by have:r.2.1 < x.1:=(List.pairwise_cons.mp u.lt).1 x hx;omega,(h x (List.mem_cons_of_mem _ hx)).2⟩
    omega
 have:=key rs.length rs 0 rfl u λr hr=>⟨(i r hr).1,(i r hr).2.2⟩
 omega
end L2
namespace Mine
open PySem L2
variable {P:Program}{w:World}{K:W.Frag}{mg:Str->Option Value}{base:Heap}
noncomputable def top (i:Nat):Stmt:=PySem.Challenge.pw_unsaybook_k21_turns_unlike.main.body.getD i (.Pass ⟨0,0,0,0⟩)
noncomputable abbrev cO:Stmt:=top 1
noncomputable abbrev lV:Stmt:=top 2
noncomputable abbrev u8:Stmt:=top 7
noncomputable abbrev m7:Stmt:=top 8
theorem eV:∀{x y:V},bF x->bF y->yr x y=true
 | .non,.non,_,_=>rfl
 | .non,.int _,_,_=>rfl
 | .int _,.non,_,_=>rfl
 | .int _,.int _,_,_=>rfl
noncomputable def mY:Sp:=λvs H Q _=>∃(p:Addr) (r:aY) (first:Int) (mark:V),vs=[.ref p,.int first,mark]/\H p=some (.tup (cE r))/\bF r.2.2/\bF mark/\∀k:Bool,(k=true↔(r.2.1+1=first/\r.2.2=mark))->Q (.bl k) H
theorem tS:FnScope ["row", "first", "mark"] ["row", "first", "mark"] (al lV):=‹2›
theorem rS {f:Addr}{fd:FuncData} (F:Fun K "goes_on" "goes_on" lV f fd):FnOk P w K mg base CX0 1 f fd ["row", "first", "mark"] mY:=by
 refine F.ok tS (λvs H Q E h=>?_) (λcdv A outer s H vs Q E hr h=>?_)
 ·obtain⟨p,r,first,mark,rfl,_⟩:=h
  rfl
 ·obtain⟨p,r,first,mark,rfl,hp,m1,m2,hq⟩:=h
  refine⟨_,aj (az (da (cS dB (aE bB (aH bf (pv 0) ai (λ_ _=>rfl)) ai) (pv 1) (aN _)) (eJ (cS dB (aH bf (pv 0) ai (λ_ _=>rfl)) (pv 2) (aN _))))),?_⟩
  refine⟨_,rfl,p,_,1,.int r.2.1,rfl,rfl,SqT.of hp,rfl,_,_,rfl,rfl,_,rfl,rfl,_,rfl,?_⟩
  refine fM (λh1=>?_) (λh1=>?_)
  ·have h1:=of_decide_eq_true h1
   injection h1 with h1
   refine⟨_,rfl,p,_,2,r.2.2,rfl,rfl,SqT.of hp,rfl,_,rfl,eV m1 m2,hq _ ?_⟩
   rw [decide_eq_true_iff]
   exact⟨λz=>⟨h1,z⟩,λz=>z.2⟩
  ·refine hq _ ⟨(λz=>by cases z),λz=>?_⟩
   exact absurd (decide_eq_true (show V.int (r.2.1+1)=V.int first by rw [z.1])) h1
noncomputable abbrev fc:Pos:=⟨4,46,4,64⟩
noncomputable abbrev dh:Str:=("joined" : Str)++".<locals>."++"<lambda>"
noncomputable def eN (T:Addr):Sp:=λvs H Q _=>∃(a:Addr) (rs:List aY),vs=[.ref a]/\dI T fc dh H/\bu H a rs/\Strip.Disj rs/\rs.length<=most/\
 ∀(b:Addr) (ss acc:List aY) (H':Hp),H b=none->Go T fc dh H H'->bu H' b acc->ss.Perm rs->Strip.Joining ss acc->Q (.ref b) H'
theorem fB:FnScope ["rows", "strip", "first", "last", "mark"] ["rows"] (al cO):=‹2›
theorem rR {f g c T:Addr}{fdg:FuncData}{oc kV doc pm ct:Value}{od an:Option Addr}{osl:Array (Option Value)}
  (lk:K.lookup f=some ⟨oc,od,.func (PySem.W.fnOf "joined" "joined" (cC cO) (bW cO) (al cO) .none kV doc pm an (.ref c) ct),osl⟩) (hcd:PySem.W.codeIn K (.ref c) "joined" = true)
  (hC:PySem.W.CodeHd base c T) (hB:base.BuiltinsAt mg T) (hs:mg "sorted" = none) (Gg:FnOk P w K mg base CX0 1 g fdg ["row", "first", "mark"] mY) (mgg:mg "goes_on_strips" = some (.ref g)) (kpg:PySem.W.keepIn K (.ref g)=true) (bg:cj K fdg ["row", "first", "mark"] []) :
  FnOk P w K mg base CX0 3 f (PySem.W.fnOf "joined" "joined" (cC cO) (bW cO) (al cO) .none kV doc pm an (.ref c) ct) ["rows"] (eN T):=by
 refine o0 (CX:=CX0) (k:=2) lk hcd fB (λvs H Q E h=>?_) (λA outer s H vs Q E hr h=>?_)
 ·obtain⟨a,rs,rfl,_⟩:=h
  rfl
 ·obtain⟨a,rs,rfl,L,⟨ps,ha,hp⟩,hd,hlen,hq⟩:=h
  have hr1:Room 1 _:=hr.mono (by decide)
  refine⟨_,PSs.nox (ah (aB (i:=1) fB.nd rfl (Or.inl rfl) (be ad))
   (ah (bP PassesOwn.never rfl (bC (wP (pa:=⟨4,53,4,56⟩) (p1:=⟨4,58,4,61⟩) (p2:=⟨4,62,4,63⟩) (p3:=⟨4,58,4,64⟩) (j:=0) (q:=dh) (scope:={ kind:=.function,names:=[(PySem.Str.ofString "row", .local)],isGenerator:=false,isCoroutine:=false,more:=[] }) hr rfl hs (aa (pv 0) ad) (wM (yV rfl hC hB rfl rfl) yQ) rfl rfl rfl rfl))
     (cR rfl (aA (ay (i:=2) fB.nd rfl (Or.inl rfl)) (aA (ay (i:=3) fB.nd rfl (Or.inl rfl)) (aA (ay (i:=4) fB.nd rfl (Or.inl rfl)) cg))))
     (aj (aW (PW.pt (dz (nG (pv 1) (λ_=>rfl)) (dC (bL (am Gg hr1 rfl mgg kpg bg .nil ao (aa (aH aR (pv 1) (eE cM ai) (λ_ _=>rfl)) (aa (pv 2) (aa (pv 4) ad))))))))
      (aj (iu (bz (aa (aH bf (aH aR (pv 1) (eE cM ai) (λ_ _=>rfl)) ai (λ_ _=>rfl)) (aa (pv 3) (aa (pv 4) ad)))) (mh (pv 1) (eE cM ai) gT)))
      (aj (aM (cT PySem.F.plainAttrs_list PySem.F.slot_list_append PySem.F.type_list_append b8 (pv 1) (aa (bz (aa (pv 2) (aa (pv 3) (aa (pv 4) ad)))) ad)))))))
   (aj (az (pv 1))))),?_⟩
  refine⟨Nat.zero_le _,λst nst=>?_⟩
  have g0:Go T fc dh H (upd H st (.lst [])):=Go.new L nst
  have L0:=g0.lam
  refine⟨_,rfl,L0,λH1 f c1 g1 nf hc1 hf1=>?_⟩
  have ha1:H1 a=some (.lst (ps.map V.ref)):=g1.lst L0 (g0.lst L ha)
  have hp1:ci H1 ps rs:=c8 hp λp xs e=>g1.tup L0 (g0.tup L e)
  have hst1:H1 st=some (.lst []):=g1.lst L0 ae
  have hlp:=bG hp
  refine⟨a,f,c1,ps,rs.map (·.1),rfl,rfl,ha1,by omega,?pk,hc1,hf1,λD zs pz sz nD=>?_⟩
  case pk=>
   clear hq hd hlen ha ha1 hlp hp
   unfold ci at hp1
   induction hp1 with
   | nil=>exact .nil
   | cons e _ ih=>exact .cons ⟨_,e.1,by show 2 < 1000;decide⟩ ih
  obtain⟨qs,ss,hq1,pss,srt,ex⟩:=nq hp1 pz sz
  rw [ex]
  have up:Strip.Rising ss:=Strip.rising_of_sorted (hd.perm pss) srt
  have sD:st≠D:=af hst1 nD
  have gD:Go T fc dh H1 (upd H1 D (.lst (qs.map V.ref))):=Go.new g1.lam nD
  have gA:Go T fc dh H (upd H1 D (.lst (qs.map V.ref))):=(g0.trans g1).trans gD
  have hls:=bG hq1
  refine⟨D,rfl,⟨_,SqL.of ae⟩,bO (K:=K) (a:=D) (xs:=qs.map V.ref) (λi σ H2=>∃(acc:List aY) (v1 v2 v3:Option V),σ=[some (.ref a),some (.ref st),v1,v2,v3]/\Go T fc dh H H2/\H2 D=some (.lst (qs.map V.ref))/\
    (∀p xs,H1 p=some (.tup xs)->H2 p=some (.tup xs))/\bu H2 st acc/\Strip.Joining (ss.take i) acc)
   ⟨[],none,none,none,rfl,gA,ae,λp xs e=>gD.tup g1.lam e,dL (by rw [ag sD];exact hst1),by rw [List.take_zero];exact Strip.Joining.nil⟩ (λi σ H2 _ hh=>?_) ?_ ?_⟩
  ·obtain⟨_,_,_,_,_,_,hD,_⟩:=hh
   exact SqL.of hD
  ·rintro i y σ H2 hi ⟨acc,v1,v2,v3,rfl,g2,hD,kt,⟨as,hst,hrs⟩,J⟩
   rw [List.getElem?_map]at hi
   cases ep:qs[i]? with
   | none=>rw [ep]at hi;cases hi
   | some p=>
    rw [ep]at hi
    cases hi
    obtain⟨r,er,ht1,hmk⟩:=dJ hq1 ep
    have ht:=kt p _ ht1
    have hil:i < ss.length:=(List.getElem?_eq_some_iff.mp er).1
    have et:ss.take (i+1)=ss.take i++[r]:=by rw [List.take_add_one,er];rfl
    have hrle:r.1<=r.2.1:=up.le r (List.mem_of_getElem? er)
    have hlast:∀t∈ss.take i,t.2.1 < r.1:=λt ht=>by
     have h1:Strip.Rising (ss.take (i+1)):=⟨up.lt.sublist (List.take_sublist _ _),λt ht=>up.le t (List.mem_of_mem_take ht)⟩
     rw [et]at h1
     exact h1.last t ht
    have hla:=bG hrs
    have hJl:=J.len
    have hsz:as.length < sizeLine:=by
     rw [List.length_take]at hJl
     have:as.length<=most:=by have:=pss.length_eq;omega
     exact Nat.lt_of_le_of_lt this (by unfold most;decide)
    refine⟨p,_,rfl,SqT.of ht,rfl,_,_,rfl,_,_,rfl,_,_,rfl,rfl,?_⟩
    have nD2:D≠st:=sD.symm
    have sT:∀{b:Addr}{xs:List V},H2 b=some (.tup xs)->b≠st:=λe=>aD e hst (by intro z;cases z)
    have app:(∀t,acc[acc.length - 1]?=some t->¬Strip.Beside t r)->∀p',H2 p'=none->∃(acc:List aY) (v1 v2 v3:Option V),[some (V.ref a),some (V.ref st),some (V.int r.1),some (V.int r.2.1),some r.2.2]=[some (V.ref a),some (V.ref st),v1,v2,v3]/\
      Go T fc dh H (upd (upd H2 p' (.tup (cE r))) st (.lst (as.map V.ref++[V.ref p'])))/\upd (upd H2 p' (.tup (cE r))) st (.lst (as.map V.ref++[V.ref p'])) D=some (.lst (qs.map V.ref))/\
      (∀p xs,H1 p=some (.tup xs)->upd (upd H2 p' (.tup (cE r))) st (.lst (as.map V.ref++[V.ref p'])) p=some (.tup xs))/\bu (upd (upd H2 p' (.tup (cE r))) st (.lst (as.map V.ref++[V.ref p']))) st acc/\Strip.Joining (ss.take (i+1)) acc:=λhn p' np=>by
     obtain⟨x1,x2⟩:=jw hst hrs np hmk
     refine⟨acc++[r],_,_,_,rfl,⟨λb o n e=>x2 b o (af e nst) (g2.same b o n e),g2.lam.row hst np⟩,x2 D _ nD2 hD,λb xs e=>x2 b _ (sT (kt b xs e)) (kt b xs e),x1,?_⟩
     rw [et]
     exact J.put hrle hlast hn
    have sz3:(as.map V.ref).length < sizeLine:=by rw [List.length_map];exact hsz
    rcases List.eq_nil_or_concat acc with e0 | ⟨ini,l,e0⟩
    ·-- the strip is empty yet
     subst e0
     have as0:as=[]:=List.length_eq_zero_iff.mp hla
     refine⟨_,rfl,false,.inl ⟨_,SqL.of hst,by rw [as0];rfl⟩,b9 (b9 ?_)⟩
     refine⟨_,rfl,.inl ⟨rfl,_,SqL.of hst⟩,_,rfl,_,rfl,_,rfl,by show 3<=sizeLine;decide,λp' np=>?_⟩
     exact⟨st,_,_,rfl,rfl,by rw [ag (af hst np)];exact hst,sz3,app (λt ht=>by simp at ht) p' np⟩
    ·rw [List.concat_eq_append]at e0
     subst e0
     obtain⟨qs2,pl,rfl,hrs2,hpl,ml⟩:=ju hrs
     have eL:(ini++[l])[(ini++[l]).length - 1]?=some l:=by simp
     have elm:(qs2++[pl]).map V.ref=qs2.map V.ref++[V.ref pl]:=by rw [List.map_append];rfl
     have at1:atI ((qs2++[pl]).map V.ref) (-1)=some (V.ref pl):=by rw [elm];exact fQ _ _
     refine⟨_,rfl,true,.inl ⟨_,SqL.of hst,by rw [elm];cases qs2 <;> rfl⟩,bT ?_⟩
     refine⟨_,rfl,_,rfl,st,_,-1,V.ref pl,rfl,rfl,SqL.of hst,at1,_,rfl,_,rfl,pl,l,r.1,r.2.2,rfl,hpl,ml,hmk,λkk hkk=>⟨_,rfl,?_⟩⟩
     cases kk with
     | true=>
      have hb:Strip.Beside l r:=hkk.mp rfl
      refine bT ?_
      refine⟨_,rfl,_,rfl,st,_,-1,V.ref pl,rfl,rfl,SqL.of hst,at1,pl,_,0,V.int l.1,rfl,rfl,SqT.of hpl,rfl,_,rfl,_,rfl,by show 3<=sizeLine;decide,λp' np=>?_⟩
      refine⟨_,rfl,_,rfl,st,_,-1,qs2.length,rfl,rfl,by rw [ag (af hst np)];exact hst,by rw [List.length_map,List.length_append];exact jN _,?_⟩
      obtain⟨x1,x2⟩:=t8 (r:=(l.1,r.2.1,r.2.2)) hst hrs2 np hmk
      refine⟨ini++[(l.1,r.2.1,r.2.2)],_,_,_,rfl,⟨λb o n e=>x2 b o (af e nst) (g2.same b o n e),g2.lam.row hst np⟩,x2 D _ nD2 hD,λb xs e=>x2 b _ (sT (kt b xs e)) (kt b xs e),x1,?_⟩
      rw [et]
      exact J.grow hrle hb
     | false=>
      have hb:¬Strip.Beside l r:=λz=>by have:=hkk.mpr z;cases this
      refine b9 ?_
      refine⟨_,rfl,.inl ⟨rfl,_,SqL.of hst⟩,_,rfl,_,rfl,_,rfl,by show 3<=sizeLine;decide,λp' np=>?_⟩
      exact⟨st,_,_,rfl,rfl,by rw [ag (af hst np)];exact hst,sz3,app (λt ht=>by rw [eL]at ht;cases ht;exact hb) p' np⟩
  ·rintro σ H2 ⟨acc,v1,v2,v3,rfl,g2,hD,kt,hrs,J⟩
   refine⟨_,rfl,hq st ss acc H2 nst g2 hrs pss ?_⟩
   rw [<- List.take_length (l:=ss)]
   have e:(qs.map V.ref).length=ss.length:=by rw [List.length_map];exact hls
   rw [e]at J
   exact J
abbrev Lm (T:Addr) (H:Hp):Prop:=dI T fc dh H
abbrev Gm (T:Addr) (H H':Hp):Prop:=Go T fc dh H H'
theorem jv {T:Addr}{H H2:Hp}{st p:Addr}{as:List Addr}{cs:List aY}{r:aY} (nst:H st=none) (g2:Gm T H H2) (hst:H2 st=some (.lst (as.map V.ref))) (hrs:ci H2 as cs) (np:H2 p=none) (hm:bF r.2.2) :
  Gm T H (upd (upd H2 p (.tup (cE r))) st (.lst (as.map V.ref++[V.ref p])))/\bu (upd (upd H2 p (.tup (cE r))) st (.lst (as.map V.ref++[V.ref p]))) st (cs++[r])/\
   ∀b o,b≠st->H2 b=some o->upd (upd H2 p (.tup (cE r))) st (.lst (as.map V.ref++[V.ref p])) b=some o:=by
 obtain⟨y1,y2⟩:=jw hst hrs np hm
 exact⟨⟨λb o n e=>y2 b o (af e nst) (g2.same b o n e),g2.lam.row hst np⟩,y1,y2⟩
theorem Gm.free {T:Addr}{H H2:Hp} (g:Gm T H H2){b:Addr} (nb:H2 b=none):H b=none:=by
 refine g.none nb λz=>?_
 obtain⟨ts,et⟩:=g.lam.tbl
 rw [z,et]at nb;cases nb
structure Cal (P:Program) (w:World) (K:PySem.W.Frag) (mg:Str->Option Value) (base:Heap) (x:Str) (k:Nat) (ps:List Str) (sp:Sp) (f:Addr) (fd:FuncData):Prop where
 ok:FnOk P w K mg base CX0 k f fd ps sp
 nm:mg x=some (.ref f)
 kp:PySem.W.keepIn K (.ref f)=true
 bd:cj K fd ps []
structure Free (mg:Str->Option Value):Prop where
 «len»:mg "len" = none
 «range»:mg "range" = none
 «sorted»:mg "sorted" = none
 «isinstance»:mg "isinstance" = none
 «int»:mg "int" = none
 «bool»:mg "bool" = none
 «str»:mg "str" = none
 «list»:mg "list" = none
 «tuple»:mg "tuple" = none
 «dict»:mg "dict" = none
 «set»:mg "set" = none
 «max»:mg "max" = none
 «min»:mg "min" = none
 «all»:mg "all" = none
 «enumerate»:mg "enumerate" = none
theorem sm {ss acc rs:List aY} (J:Strip.Joining ss acc) (p:ss.Perm rs) (h:cy rs):cy acc:=λr hr=>
 ⟨J.hi 0 (λt ht=>(h t (p.mem_iff.mp ht)).1) r hr,J.tidy.up.le r hr,J.lo 400 (λt ht=>(h t (p.mem_iff.mp ht)).2.2) r hr⟩
theorem gK {ss acc rs:List aY} (J:Strip.Joining ss acc) (p:ss.Perm rs) (d:Strip.Disj rs) (n:Int):Strip.dayOf acc n=Strip.dayOf rs n:=by rw [J.day,Strip.dayOf_perm d p]
noncomputable def jm (T:Addr):Sp:=λvs H Q _=>∃(a:Addr) (f l:Int) (rs:List aY),vs=[.ref a,.int f,.int l]/\Lm T H/\bu H a rs/\Strip.Disj rs/\cy rs/\rs.length<=400/\0<=f/\f<=l/\l < 400/\
 ∀(b:Addr) (cs:List aY) (H':Hp),H b=none->Gm T H H'->bu H' b cs->Strip.DG cs (Strip.holeG rs f l)->cy cs->cs.length<=rs.length+1->Q (.ref b) H'
theorem fD:FnScope ["rows", "first", "last", "kept", "start", "end", "mark"] ["rows", "first", "last"] (al m7):=‹2›
theorem rY {f T:Addr}{fd:FuncData} (F:Fun K "around" "around" m7 f fd) (hmin:mg "min" = none) (hmax:mg "max" = none):FnOk P w K mg base CX0 3 f fd ["rows", "first", "last"] (jm T):=by
 refine F.ok (k:=2) fD (λvs H Q E h=>?_) (λcdv A outer s H vs Q E hr h=>?_)
 ·obtain⟨a,f,l,rs,rfl,_⟩:=h
  rfl
 ·obtain⟨a,f,l,rs,rfl,L,⟨ps,ha,hp⟩,dj,hin,hlen,hf0,hfl,hl4,hq⟩:=h
  refine⟨_,(ah (aB (i:=3) fD.nd rfl (Or.inl rfl) (be ad))
   (ah (bP PassesOwn.never rfl (bC (pv 0)) (cR rfl (aA (ay (i:=4) fD.nd rfl (Or.inl rfl)) (aA (ay (i:=5) fD.nd rfl (Or.inl rfl)) (aA (ay (i:=6) fD.nd rfl (Or.inl rfl)) cg)))) (ah (aW (aQ qz (pv 4) (pv 1) (aN _)) (aj (aM (cT PySem.F.plainAttrs_list PySem.F.slot_list_append PySem.F.type_list_append b8 (pv 3) (aa (bz (aa (pv 4) (aa (aG (iE rfl) (by rfl) hmin PyProof.Rows.Boot.«min» (aa (pv 5) (aa (aE eY (pv 1) ai) ad))) (aa (pv 6) ad)))) ad)))) aF)
   (aj (aW (aQ qz (pv 2) (pv 5) (aN _)) (aj (aM (cT PySem.F.plainAttrs_list PySem.F.slot_list_append PySem.F.type_list_append b8 (pv 3) (aa (bz (aa (aG (lq rfl) (by rfl) hmax PyProof.Rows.Boot.«max» (aa (pv 4) (aa (aE bB (pv 2) ai) ad))) (aa (pv 5) (aa (pv 6) ad)))) ad)))) aF))))
   (aj (az (pv 3))))),?_⟩
  refine⟨Nat.zero_le _,λst nst0=>?_⟩
  have g0:Gm T H (upd H st (.lst [])):=Go.new L nst0
  have hlp:=bG hp
  refine⟨_,rfl,a,rfl,⟨_,SqL.of (g0.lst L ha)⟩,bO (K:=K) (a:=a) (xs:=ps.map V.ref) (λi σ H2=>∃(cs:List aY) (v5 v6 v7:Option V),σ=[some (.ref a),some (.int f),some (.int l),some (.ref st),v5,v6,v7]/\Gm T H H2/\bu H2 st cs/\
    Strip.DG cs (Strip.holeG (rs.take i) f l)/\cy cs/\(cs.length<=i\/(cs.length<=i+1/\∃r∈rs.take i,Strip.Has r f)))
   ⟨[],none,none,none,rfl,g0,dL ae,(Strip.hole_start (f:=f) (l:=l)).eq λn=>by rw [List.take_zero],(λ_ h=>nomatch h),.inl (Nat.le_refl _)⟩ (λi σ H2 _ hh=>?_) ?_ ?_⟩
  ·obtain⟨_,_,_,_,_,g,_⟩:=hh
   exact SqL.of (g.lst L ha)
  ·rintro i y σ H2 hi ⟨cs,v5,v6,v7,rfl,g2,⟨as,hst,hrs⟩,D,hi4,hln⟩
   rw [List.getElem?_map]at hi
   cases ep:ps[i]? with
   | none=>rw [ep]at hi;cases hi
   | some p=>
    rw [ep]at hi
    cases hi
    obtain⟨r,er,ht0,hmk⟩:=dJ hp ep
    have ht:=g2.tup L ht0
    have hil:i < rs.length:=(List.getElem?_eq_some_iff.mp er).1
    obtain⟨r0,r1,r2⟩:=hin r (List.mem_of_getElem? er)
    have hsz:cs.length<=i+2:=by rcases hln with h | h <;> omega
    have old:∀q∈rs.take i,Strip.Has q f->Strip.Has r f->False:=λq hq h1 h2=>by
     have:=dj.ahead er h2
     have d2:Strip.Disj (rs.take i):=⟨dj.ap.sublist (List.take_sublist _ _),λt ht=>dj.le t (List.mem_of_mem_take ht)⟩
     rw [Strip.dayOf_mem d2 hq h1]at this
     cases this
    refine⟨p,_,rfl,SqT.of ht,rfl,_,_,rfl,_,_,rfl,_,_,rfl,rfl,?_⟩
    have sz:∀{as2:List Addr}{cs2:List aY}{H3:Hp},ci H3 as2 cs2->cs2.length<=i+3->(as2.map V.ref).length < sizeLine:=λh1 h2=>by
     rw [List.length_map,bG h1]
     exact Nat.lt_of_lt_of_le (show _ < 900 by omega) (by decide)
    have mem:∀q,q∈rs.take i->q∈rs.take (i+1):=λq hq=>by rw [Strip.take_snoc er];exact List.mem_append_left _ hq
    have memr:r∈rs.take (i+1):=by rw [Strip.take_snoc er];exact List.mem_append_right _ (List.mem_singleton.mpr rfl)
    have noR:∀(cs2:List aY) (H3:Hp),¬l < r.2.1->Gm T H H3->bu H3 st cs2->Strip.DG cs2 (Strip.midH (rs.take i) f l r)->cy cs2->(cs2.length<=i+1\/(cs2.length<=i+1+1/\∃r∈rs.take (i+1),Strip.Has r f))->∃(cs:List aY) (v5 v6 v7:Option V),[some (V.ref a),some (V.int f),some (V.int l),some (V.ref st),some (V.int r.1),some (V.int r.2.1),some r.2.2]=[some (.ref a),some (.int f),some (.int l),some (.ref st),v5,v6,v7]/\Gm T H (H3)/\bu (H3) st cs/\Strip.DG cs (Strip.holeG (rs.take (i+1)) f l)/\cy cs/\(cs.length<=i+1\/(cs.length<=i+1+1/\∃r∈rs.take (i+1),Strip.Has r f)):=λcs2 H3 h g3 hr3 D3 i3 l3=>
     ⟨cs2,_,_,_,rfl,g3,hr3,Strip.hole_noRight er h D3,i3,l3⟩
    have doR:∀(cs2:List aY) (as2:List Addr) (H3:Hp),l < r.2.1->Gm T H H3->H3 st=some (.lst (as2.map V.ref))->ci H3 as2 cs2->Strip.DG cs2 (Strip.midH (rs.take i) f l r)->cy cs2->(cs2.length<=i\/(cs2.length<=i+1/\∃r∈rs.take (i+1),Strip.Has r f))->∀p',H3 p'=none->∃(cs:List aY) (v5 v6 v7:Option V),[some (V.ref a),some (V.int f),some (V.int l),some (V.ref st),some (V.int r.1),some (V.int r.2.1),some r.2.2]=[some (.ref a),some (.int f),some (.int l),some (.ref st),v5,v6,v7]/\Gm T H (upd (upd H3 p' (.tup (cE (if l+1 > r.1 then l+1 else r.1,r.2.1,r.2.2)))) st (.lst (as2.map V.ref++[V.ref p'])))/\bu (upd (upd H3 p' (.tup (cE (if l+1 > r.1 then l+1 else r.1,r.2.1,r.2.2)))) st (.lst (as2.map V.ref++[V.ref p']))) st cs/\Strip.DG cs (Strip.holeG (rs.take (i+1)) f l)/\cy cs/\(cs.length<=i+1\/(cs.length<=i+1+1/\∃r∈rs.take (i+1),Strip.Has r f)):=λcs2 as2 H3 h g3 hst3 hr3 D3 i3 l3 p' np=>by
     obtain⟨D4,a1⟩:=Strip.hole_right dj er hfl h rfl D3
     have a2:(if l+1 > r.1 then l+1 else r.1)<=r.2.1:=by split <;> omega
     obtain⟨z1,z2,z3⟩:=jv (r:=(if l+1 > r.1 then l+1 else r.1,r.2.1,r.2.2)) nst0 g3 hst3 hr3 np hmk
     refine⟨_,_,_,_,rfl,z1,z2,D4,i3.snoc (by show 0<=if l+1 > r.1 then l+1 else r.1;omega) a2 r2,?_⟩
     rw [List.length_append]
     simp only [List.length_singleton]
     rcases l3 with l3 | ⟨l3,q⟩
     ·exact .inl ‹1›
     ·exact .inr ⟨by omega,q⟩
    refine⟨_,rfl,_,rfl,_,_,rfl,rfl,_,rfl,fM (λh=>?_) (λh=>?_)⟩
    ·have h:r.1 < f:=of_decide_eq_true h
     obtain⟨D2,b1⟩:=Strip.hole_left dj er h rfl D
     have b2:r.1<=(if f - 1 < r.2.1 then f - 1 else r.2.1):=by split <;> omega
     refine⟨_,rfl,.inl ⟨rfl,_,SqL.of hst⟩,_,rfl,_,rfl,_,rfl,_,_,rfl,rfl,_,_,rfl,_,rfl,by show 3<=sizeLine;decide,λp1 np1=>?_⟩
     refine⟨st,_,_,rfl,rfl,by rw [ag (af hst np1)];exact hst,sz hrs ‹1›,?_⟩
     obtain⟨z1,⟨as3,z2,z2'⟩,z3⟩:=jv (r:=(r.1,if f - 1 < r.2.1 then f - 1 else r.2.1,r.2.2)) nst0 g2 hst hrs np1 hmk
     have i3:=hi4.snoc (r:=(r.1,if f - 1 < r.2.1 then f - 1 else r.2.1,r.2.2)) r0 b2 (by show (if f - 1 < r.2.1 then f - 1 else r.2.1) < 400;omega)
     have l5:(cs++[(r.1,if f - 1 < r.2.1 then f - 1 else r.2.1,r.2.2)]).length=cs.length+1:=by rw [List.length_append];rfl
     refine⟨_,rfl,_,rfl,_,_,rfl,rfl,_,rfl,fM (λh2=>?_) (λh2=>?_)⟩
     ·have h2:l < r.2.1:=of_decide_eq_true h2
      refine⟨_,rfl,.inl ⟨rfl,_,SqL.of z2⟩,_,rfl,_,rfl,_,_,rfl,rfl,_,_,rfl,_,rfl,_,rfl,by show 3<=sizeLine;decide,λp2 np2=>?_⟩
      refine⟨st,_,_,rfl,rfl,by rw [ag (af z2 np2)];exact z2,sz z2' ‹1›,?_⟩
      have hf:Strip.Has r f:=⟨by omega,by omega⟩
      refine doR _ as3 _ h2 z1 z2 z2' D2 i3 ?_ p2 np2
      rw [l5]
      rcases hln with q | ⟨q,t,ht,htf⟩
      ·exact .inr ⟨by omega,r,memr,hf⟩
      ·exact(old t ht htf hf).elim
     ·refine noR _ _ (λz=>h2 (decide_eq_true z)) z1 ⟨as3,z2,z2'⟩ D2 i3 ?_
      rw [l5]
      rcases hln with q | ⟨q,t,ht,htf⟩
      ·exact .inl ‹1›
      ·exact .inr ⟨by omega,t,mem t ht,htf⟩
    ·have D2:=Strip.hole_noLeft (λz=>h (decide_eq_true z)) D
     refine⟨_,rfl,_,rfl,_,_,rfl,rfl,_,rfl,fM (λh2=>?_) (λh2=>?_)⟩
     ·have h2:l < r.2.1:=of_decide_eq_true h2
      refine⟨_,rfl,.inl ⟨rfl,_,SqL.of hst⟩,_,rfl,_,rfl,_,_,rfl,rfl,_,_,rfl,_,rfl,_,rfl,by show 3<=sizeLine;decide,λp2 np2=>?_⟩
      refine⟨st,_,_,rfl,rfl,by rw [ag (af hst np2)];exact hst,sz hrs ‹1›,?_⟩
      refine doR cs as H2 h2 g2 hst hrs D2 hi4 ?_ p2 np2
      rcases hln with q | ⟨q,t,ht,htf⟩
      ·exact .inl q
      ·exact .inr ⟨by omega,t,mem t ht,htf⟩
     ·refine noR cs H2 (λz=>h2 (decide_eq_true z)) g2 ⟨as,hst,hrs⟩ D2 hi4 ?_
      rcases hln with q | ⟨q,t,ht,htf⟩
      ·exact .inl ‹1›
      ·exact .inr ⟨by omega,t,mem t ht,htf⟩
  ·rintro σ H2 ⟨cs,v5,v6,v7,rfl,g2,hrs,D,hi4,hln⟩
   have e:(ps.map V.ref).length=rs.length:=by rw [List.length_map];exact hlp
   rw [e]at D hln
   rw [List.take_length]at D
   have hsz:cs.length<=rs.length+1:=by rcases hln with h | h <;> omega
   exact⟨_,rfl,hq st cs H2 nst0 g2 hrs D hi4 hsz⟩
noncomputable def lP (T:Addr):Sp:=λvs H Q _=>∃(a:Addr) (f l m:Int) (rs:List aY),vs=[.ref a,.int f,.int l,.int m]/\Lm T H/\bu H a rs/\Strip.Disj rs/\cy rs/\rs.length<=400/\0<=f/\f<=l/\l < 400/\
 ∀(b:Addr) (acc:List aY) (H':Hp),H b=none->Gm T H H'->bu H' b acc->Strip.Tidy acc->(∀n,Strip.dayOf acc n=Strip.laidG (.int m) rs f l n)->cy acc->acc.length<=rs.length+2->Q (.ref b) H'
theorem yx:FnScope ["strip", "first", "last", "mark"] ["strip", "first", "last", "mark"] (al u8):=‹2›
theorem xb {f T f1 f2:Addr}{fd fd1 fd2:FuncData} (F:Fun K "laid" "laid" u8 f fd) (CJ:Cal P w K mg base "joined" 3 ["rows"] (eN T) f1 fd1) (CA:Cal P w K mg base "around" 3 ["rows", "first", "last"] (jm T) f2 fd2):FnOk P w K mg base CX0 4 f fd ["strip", "first", "last", "mark"] (lP T):=by
 refine F.ok (k:=3) yx (λvs H Q E h=>?_) (λcdv A outer s H vs Q E hr h=>?_)
 ·obtain⟨a,f,l,m,rs,rfl,_⟩:=h
  rfl
 ·obtain⟨a,f,l,m,rs,rfl,L,hrs0,dj,hin,hlen,hf0,hfl,hl4,hq⟩:=h
  refine⟨_,(aj (az (am CJ.ok hr rfl CJ.nm CJ.kp CJ.bd .nil ao (aa (aE p6 (am CA.ok hr rfl CA.nm CA.kp CA.bd .nil ao (aa (pv 0) (aa (pv 1) (aa (pv 2) ad)))) (be (aa (bz (aa (pv 1) (aa (pv 2) (aa (pv 3) ad)))) ad))) ad)))),?_⟩
  refine⟨_,rfl,_,rfl,_,rfl,a,f,l,rs,rfl,L,hrs0,dj,hin,hlen,hf0,hfl,hl4,λb cs H1 nb g1 ⟨qs,hb,hqs⟩ D i1 l1=>?_⟩
  refine⟨_,rfl,_,rfl,_,rfl,by show 3<=sizeLine;decide,λp0 np0=>?_⟩
  have g2:Gm T H1 (upd H1 p0 (.tup (cE (f,l,V.int m)))):=Go.new g1.lam np0
  refine⟨by show 1<=sizeLine;decide,λst nst=>?_⟩
  have g3:Gm T (upd H1 p0 (.tup (cE (f,l,V.int m)))) (upd (upd H1 p0 (.tup (cE (f,l,V.int m)))) st (.lst [V.ref p0])):=Go.new g2.lam nst
  have g23:=g2.trans g3
  have hlq:=bG hqs
  refine⟨b,st,_,_,rfl,rfl,g23.lst g1.lam hb,ae,?_,λd nd=>?_⟩
  ·rw [List.length_map]
   exact Nat.le_trans (show qs.length+1<=900 by omega) (by decide)
  have g4:Gm T (upd (upd H1 p0 (.tup (cE (f,l,V.int m)))) st (.lst [V.ref p0])) (upd (upd (upd H1 p0 (.tup (cE (f,l,V.int m)))) st (.lst [V.ref p0])) d (.lst (qs.map V.ref++[V.ref p0]))):=Go.new g3.lam nd
  have gB:=g23.trans g4
  have gA:=g1.trans gB
  have DD:=Strip.hole_laid (m:=V.int m) hfl D
  refine⟨d,cs++[(f,l,V.int m)],rfl,gA.lam,⟨qs++[p0],?_,eW (g4.tup g3.lam (g3.tup g2.lam ae)) trivial (c8 hqs λp xs e=>gB.tup g1.lam e)⟩,DD.dj,?_,λb2 ss acc H3 nb2 g5 hacc pss J=>?_⟩
  ·rw [ae,List.map_append];rfl
  ·rw [List.length_append];show cs.length+1<=most;unfold most;omega
  ·have i2:cy (cs++[(f,l,V.int m)]):=i1.snoc hf0 hfl hl4
   refine hq b2 acc H3 (Gm.free gA nb2) (gA.trans g5) hacc J.tidy (λn=>?_) (sm J pss i2) ?_
   ·rw [gK J pss DD.dj,DD.day]
   ·have h1:=J.len
    have h2:=pss.length_eq
    rw [List.length_append]at h2
    have h3:cs.length+1=cs.length+[(f,l,V.int m)].length:=rfl
    omega
noncomputable abbrev uf:Stmt:=top 43
noncomputable abbrev yD:Stmt:=top 44
noncomputable abbrev uc:Stmt:=top 45
noncomputable abbrev oG:Stmt:=top 46
noncomputable abbrev jp:Stmt:=top 49
noncomputable abbrev fE:Stmt:=top 14
noncomputable abbrev oQ:Stmt:=top 15
noncomputable abbrev u7:Stmt:=top 16
noncomputable abbrev yF:Stmt:=top 17
noncomputable abbrev js:Stmt:=top 40
noncomputable abbrev oU:Stmt:=top 41
def aq (H H':Hp):Prop:=∀b o,H b=some o->H' b=some o
theorem aq.refl {H:Hp}:aq H H:=λ_ _ e=>e
theorem aq.trans {H H1 H2:Hp} (g:aq H H1) (g':aq H1 H2):aq H H2:=λb o e=>g' b o (g b o e)
theorem aq.new {H:Hp}{a:Addr}{o:HO} (n:H a=none):aq H (upd H a o):=λb o e=>by rw [ag (af e n)];exact e
theorem aq.free {H H':Hp} (g:aq H H'){a:Addr} (n:H' a=none):H a=none:=by
 cases e:H a with
 | none=>rfl
 | some o=>rw [g a o e]at n;cases n
noncomputable abbrev gI:Str:=‹"abcdefghijklmnopqrstuvwxyz"›
structure Con (mg:Str->Option Value):Prop where
 letters:∃t,mg "LETTERS" = some (.str gI t)
 eight:∃t,mg "MOST_LETTERS" = some (.int 8 t)
 lastday:∃t,mg "LAST_DAY" = some (.int 399 t)
 keys:∃t,mg "MOST_KEYS" = some (.int 8 t)
 deeds:∃t,mg "MOST_DEEDS" = some (.int 60 t)
 value:∃t,mg "MOST_VALUE" = some (.int 1000000000 t)
noncomputable def tK (K:PySem.W.Frag):Sp:=λvs H Q _=>∃(a:Addr) (ns:List Int) (k:Int),vs=[.ref a,.int k]/\SqL K H a (ns.map V.int)/\0<=k/\∀n:Int,Q (.int n) H
theorem yA:FnScope ["_law_script", "_law_k"] ["_law_script", "_law_k"] (al uf):=‹2›
theorem xl {f:Addr}{fd:FuncData} (F:Fun K "_law_cell" "_law_cell" uf f fd) (N:Free mg):FnOk P w K mg base CX0 1 f fd ["_law_script", "_law_k"] (tK K):=by
 refine F.ok (k:=0) yA (λvs H Q E h=>?_) (λcdv A outer s H vs Q E hr h=>?_)
 ·obtain⟨a,ns,k,rfl,_⟩:=h
  rfl
 ·obtain⟨a,ns,k,rfl,hS,hk,q⟩:=h
  have hu:=aS hr
  refine⟨_,(ah (aW (aQ qz (pv 1) (aG aV (by rfl) N.len PySem.boot_len (aa (pv 0) ad)) (aN _)) (aj (az (aH aR (pv 0) (pv 1) (λ_ _=>rfl)))) aF)
   (aj (az (aE bB (aE eK ai (pv 1)) ai)))),?_⟩
  refine⟨_,rfl,_,rfl,a,_,rfl,.inl hS,_,_,rfl,rfl,_,rfl,?_⟩
  refine fM (λhlt=>?_) (λ_=>?_)
  ·have hlt:k < ((ns.map V.int).length:Int):=of_decide_eq_true hlt
   rw [List.length_map]at hlt
   obtain⟨j,rfl⟩:∃j:Nat,k=(j:Int):=⟨k.toNat,by omega⟩
   have hk2:j < ns.length:=by omega
   refine⟨_,rfl,_,rfl,a,_,(j:Int),.int ns[j],rfl,rfl,hS,cD ?_,q _⟩
   rw [List.getElem?_map,List.getElem?_eq_getElem hk2]
   rfl
  ·exact⟨_,rfl,_,_,rfl,rfl,.inl ⟨by decide,by decide⟩,_,_,rfl,rfl,q _⟩
noncomputable def qf:Sp:=λvs H Q _=>∃(c k:Int),vs=[.int c,.int k]/\0<=k/\k<=1000/\∀n:Int,0<=n->n < 2147483587->Q (.int n) H
noncomputable def gy:Sp:=λvs H Q _=>∃(c k m:Int),vs=[.int c,.int k,.int m]/\0<=k/\k<=1000/\0 < m/\∀n:Int,0<=n->n < m->Q (.int n) H
noncomputable def lK:Sp:=λvs H Q _=>∃i:Int,vs=[.int i]/\Q (.bl true) H
theorem tR:FnScope ["_law_cell_here", "_law_k", "_law_number"] ["_law_cell_here", "_law_k"] (al yD):=‹2›
theorem ze {f:Addr}{fd:FuncData} (F:Fun K "_law_mix" "_law_mix" yD f fd)  : FnOk P w K mg base CX0 1 f fd ["_law_cell_here", "_law_k"] qf:=by
 refine F.ok (k:=0) tR (λvs H Q E h=>?_) (λcdv A outer s H vs Q E hr h=>?_)
 ·obtain⟨c,k,rfl,_⟩:=h
  rfl
 ·obtain⟨c,k,rfl,hk,hk2,q⟩:=h
  have hu:=aS hr
  refine⟨_,(ah (aB (i:=2) tR.nd rfl (Or.inl rfl) (aE dS (aE eK (aE bB (aE dS (pv 0) ai) (aE eK ai (pv 1))) ai) ai))
   (ah (aB (i:=2) tR.nd rfl (Or.inl rfl) (aE dS (aE eK (pv 2) (pv 2)) ai))
   (aj (az (aE dS (aE bB (aE bB (aE eK (pv 2) (pv 2)) (aE eK ai (pv 2))) (pv 1)) ai))))),?_⟩
  have small:∀(x:Int){m:Int},0 < m->m < 2 ^ 64->-(2 ^ 64) < x % m/\x % m < 2 ^ 64:=λx m h1 h2=>by
   have a:=Int.emod_nonneg x (Int.ne_of_gt h1)
   have b:=Int.emod_lt_of_pos x h1
   omega
  refine⟨_,rfl,_,_,rfl,rfl,(by show (0:Int) < 2147483647;decide),_,rfl,_,_,rfl,rfl,.inl ⟨by decide,by decide⟩,_,_,rfl,rfl,_,_,rfl,rfl,.inr ⟨by decide,by decide⟩,_,_,rfl,rfl,(by show (0:Int) < 2147483647;decide),?_⟩
  refine⟨_,rfl,_,rfl,_,_,rfl,rfl,.inl (small _ (by decide) (by decide)),_,_,rfl,rfl,(by show (0:Int) < 2147483629;decide),?_⟩
  refine⟨_,rfl,_,rfl,_,_,rfl,rfl,.inl (small _ (by decide) (by decide)),_,rfl,_,_,rfl,rfl,.inl ⟨by decide,by decide⟩,_,_,rfl,rfl,_,rfl,_,_,rfl,rfl,_,_,rfl,rfl,(by show (0:Int) < 2147483587;decide),?_⟩
  exact q _ (Int.emod_nonneg _ (by decide)) (Int.emod_lt_of_pos _ (by decide))
theorem yz:FnScope ["_law_cell_here", "_law_k", "_law_many"] ["_law_cell_here", "_law_k", "_law_many"] (al uc):=‹2›
theorem xh {f f1:Addr}{fd:FuncData} (F:Fun K "_law_draw" "_law_draw" uc f fd){fd1:FuncData} (CM:Cal P w K mg base "_law_mix" 1 ["_law_cell_here", "_law_k"] qf f1 fd1):FnOk P w K mg base CX0 2 f fd ["_law_cell_here", "_law_k", "_law_many"] gy:=by
 refine F.ok (k:=1) yz (λvs H Q E h=>?_) (λcdv A outer s H vs Q E hr h=>?_)
 ·obtain⟨c,k,m,rfl,_⟩:=h
  rfl
 ·obtain⟨c,k,m,rfl,hk,hk2,hm,q⟩:=h
  have hu:=aS hr
  refine⟨_,(ah (aW (PW.pt (dz (aQ xY (pv 0) (aE fL ai ai) (aN _)) (dC (aQ uH (aE uF (pv 0) (aE eK ai (pv 1))) ai (aN _))))) (aj (az (aE dS (aE dS (aE uF (pv 0) (aE eK ai (pv 1))) (aE fL ai ai)) (pv 2)))) aF)
   (aj (az (aE dS (am CM.ok (hr.mono (by decide)) rfl CM.nm CM.kp CM.bd .nil ao (aa (pv 0) (aa (pv 1) ad))) (pv 2))))),?_⟩
  have hk0:(0:Int)<=40 * k:=by omega
  have fin:∀x:Int,0<=x % m/\x % m < m:=λx=>⟨Int.emod_nonneg x ‹1›,Int.emod_lt_of_pos x hm⟩
  refine⟨_,rfl,10,18,rfl,rfl,⟨by decide,by decide,by decide⟩,_,_,rfl,rfl,_,rfl,?_⟩
  refine fM (λ_=>?_) (λ_=>b9 ?_)
  ·refine⟨_,rfl,_,rfl,_,_,rfl,rfl,.inl ⟨by decide,by decide⟩,_,_,rfl,rfl,hk0,_,_,rfl,rfl,_,rfl,?_⟩
   refine fM (λ_=>?_) (λ_=>?_)
   ·exact⟨_,rfl,_,rfl,_,_,rfl,rfl,.inl ⟨by decide,by decide⟩,_,_,rfl,rfl,hk0,2,40,rfl,rfl,⟨by decide,by decide,by decide⟩,_,_,rfl,rfl,(by show (0:Int) < 2 ^ Int.toNat 40;decide),_,rfl,_,_,rfl,rfl,hm,q _ (fin _).1 (fin _).2⟩
   ·exact⟨_,rfl,_,rfl,c,k,rfl,hk,hk2,λn _ _=>⟨_,rfl,_,_,rfl,rfl,hm,q _ (fin _).1 (fin _).2⟩⟩
  ·exact⟨_,rfl,_,rfl,c,k,rfl,hk,hk2,λn _ _=>⟨_,rfl,_,_,rfl,rfl,hm,q _ (fin _).1 (fin _).2⟩⟩
theorem wu:FnScope ["_law_found"] ["_law_found"] (al oG):=‹2›
theorem uJ {f:Addr}{fd:FuncData} (F:Fun K "_law_whole" "_law_whole" oG f fd) (N:Free mg):FnOk P w K mg base CX0 1 f fd ["_law_found"] lK:=by
 refine F.ok (k:=0) wu (λvs H Q E h=>?_) (λcdv A outer s H vs Q E hr h=>?_)
 ·obtain⟨i,rfl,_⟩:=h
  rfl
 ·obtain⟨i,rfl,q⟩:=h
  have hu:=aS hr
  refine⟨_,(aj (az (da (aG bS (by rfl) N.isinstance PyProof.Rows.Boot.«isinstance» (aa (pv 0) (aa (de (v:=.ty "int") (by rfl) N.int PyProof.Rows.Boot.«int» rfl) ad))) (eJ (p5 (aG bS (by rfl) N.isinstance PyProof.Rows.Boot.«isinstance» (aa (pv 0) (aa (de (v:=.ty "bool") (by rfl) N.bool PyProof.Rows.Boot.«bool» rfl) ad)))))))),?_⟩
  exact⟨_,rfl,.int i,"int", _,true,rfl,.int i,by rfl,_,rfl,bT ⟨_,rfl,.int i,"bool", _,false,rfl,.int i,by rfl,_,rfl,q⟩⟩
theorem sZ (s:Int){d:Int} (h0:0<=d) (h1:d < 3) (hs:0 < s):∃m:Int,0 < m/\atI [V.int 1,V.int 5,V.int s] d=some (V.int m):=by
 rcases (show d=0\/d=1\/d=2 by omega) with rfl | rfl | rfl
 ·exact⟨1,by decide,rfl⟩
 ·exact⟨5,by decide,rfl⟩
 ·exact⟨s,hs,rfl⟩
noncomputable def kG:Sp:=λvs H Q _=>∃(c k s:Int),vs=[.int c,.int k,.int s]/\0<=k/\k<=900/\0 < s/\s<=400/\
 ∀(p:Addr) (x y:Int) (H':Hp),aq H H'->H' p=some (.tup [.int x,.int y])->0<=x->x<=y->y < 400->Q (.ref p) H'
theorem kJ:FnScope ["_law_cell_here", "_law_k", "_law_span", "_law_first"] ["_law_cell_here", "_law_k", "_law_span"] (al jp):=‹2›
theorem p8 {f f1:Addr}{fd:FuncData} (F:Fun K "_law_stretch" "_law_stretch" jp f fd) (N:Free mg){fd1:FuncData} (CD:Cal P w K mg base "_law_draw" 2 ["_law_cell_here", "_law_k", "_law_many"] gy f1 fd1):FnOk P w K mg base CX0 3 f fd ["_law_cell_here", "_law_k", "_law_span"] kG:=by
 refine F.ok (k:=2) kJ (λvs H Q E h=>?_) (λcdv A outer s H vs Q E hr h=>?_)
 ·obtain⟨c,k,s,rfl,_⟩:=h
  rfl
 ·obtain⟨c,k,s,rfl,k0,k9,s0,s4,q⟩:=h
  have hu:=aS hr
  refine⟨_,(ah (aW (aQ dB (am CD.ok (hr.mono (by decide)) rfl CD.nm CD.kp CD.bd .nil ao (aa (pv 0) (aa (pv 1) (aa ai ad)))) ai (aN _)) (aj (az (bz (aa ai (aa ai ad))))) aF)
   (ah (aB (i:=3) kJ.nd rfl (Or.inl rfl) (am CD.ok (hr.mono (by decide)) rfl CD.nm CD.kp CD.bd .nil ao (aa (pv 0) (aa (aE bB (pv 1) ai) (aa (pv 2) ad)))))
   (aj (az (bz (aa (pv 3) (aa (aG (iE rfl) (by rfl) N.min PyProof.Rows.Boot.«min» (aa (aE bB (pv 3) (am CD.ok (hr.mono (by decide)) rfl CD.nm CD.kp CD.bd .nil ao (aa (pv 0) (aa (aE bB (pv 1) ai) (aa (aH aR (be (aa ai (aa ai (aa (pv 2) ad)))) (am CD.ok (hr.mono (by decide)) rfl CD.nm CD.kp CD.bd .nil ao (aa (pv 0) (aa (aE bB (pv 1) ai) (aa ai ad)))) (λ_ _=>rfl)) ad))))) (aa (aE eY (pv 2) ai) ad))) ad))))))),?_⟩
  refine⟨_,rfl,_,rfl,c,k,12,rfl,k0,by omega,by decide,λn _ _=>⟨rfl,_,rfl,fM (λ_=>?_) (λ_=>?_)⟩⟩
  ·exact⟨by show 2<=sizeLine;decide,λp np=>q p 0 399 _ (aq.new np) ae (by decide) (by decide) (by decide)⟩
  ·refine⟨_,rfl,_,rfl,_,_,rfl,rfl,_,rfl,c,_,s,rfl,by omega,by omega,s0,λx x0 x1=>?_⟩
   refine⟨_,rfl,_,rfl,_,rfl,_,rfl,_,_,rfl,rfl,_,rfl,by show 3<=sizeLine;decide,λl nl=>?_⟩
   refine⟨_,rfl,_,rfl,_,_,rfl,rfl,c,_,3,rfl,by omega,by omega,by decide,λd d0 d1=>?_⟩
   obtain⟨m,m0,em⟩:=sZ s d0 d1 s0
   refine⟨l,_,d,V.int m,rfl,rfl,SqL.of ae,em,c,_,m,rfl,by omega,by omega,m0,λy y0 y1=>?_⟩
   refine⟨_,_,rfl,rfl,_,rfl,_,_,rfl,rfl,_,_,rfl,by show 2<=sizeLine;decide,λp np=>?_⟩
   exact q p x _ _ ((aq.new nl).trans (aq.new np)) ae x0 (by split <;> omega) (by split <;> omega)
noncomputable def inZ (z:Str) (c:Nat):Bool:=decide (c∈z.cps.toList)
noncomputable def iT (x z:Str) (m:Int):Bool:=decide (1<=(x.length:Int)) && (decide ((x.length:Int)<=m) && x.cps.toList.all (inZ z))
noncomputable def xS:Sp:=λvs H Q _=>∃(x z:Str) (m:Int),vs=[.str x,.str z,.int m]/\x.length < sizeLine/\∀H',aq H H'->Q (.bl (iT x z m)) H'
theorem t3 {σ:St}{H:Hp}{Q:VK}{x z:Str} (e0:σ[0]?=some (some (.str x))) (e1:σ[1]?=some (some (.str z))) (hl:x.length < sizeLine)
  (hq:∀(D:Addr) (H':Hp),H D=none->aq H H'->H' D=some (.lst ((x.cps.toList.map (inZ z)).map V.bl))->Q (.ref D) H') :
  jf (AH (eG 0)) [1] (λ_ H Q=>Q true H) (tOp (λx y H Q=>∃i j,x=.str i/\y=.str j/\Q (.bl (!(Builtin.Str.occurrences j i 0 j.length 1).isEmpty)) H) (eG 0) (eG 1)) σ H Q:=by
 have es:bX [1] σ=[some (.str z)]:=by
  show [(σ[1]?).join]=_
  rw [e1];rfl
 refine⟨_,e0,x,rfl,λD nD=>vL (x:=x) (sub:=[1]) (tt:=λ_ H Q=>Q true H) (te:=tOp (λx y H Q=>∃i j,x=.str i/\y=.str j/\Q (.bl (!(Builtin.Str.occurrences j i 0 j.length 1).isEmpty)) H) (eG 0) (eG 1)) (Q:=Q) (σ:=σ)
  (λi ys H2=>ys=((x.cps.toList.take i).map (inZ z)).map V.bl/\H2=upd H D (.lst ys)) ⟨rfl,rfl⟩ (λi c ys H2 hi hh=>?_) λys H2 hh=>?_⟩
 ·obtain⟨rfl,rfl⟩:=hh
  rw [es]
  show (if true=true then _ else _)
  rw [if_pos rfl]
  have hi':x.cps.toList[i]?=some c:=by simpa using hi
  have hil:i < x.cps.size:=(Array.getElem?_eq_some_iff.mp hi).1
  refine⟨_,rfl,_,rfl,_,_,rfl,rfl,ae,?_,?_,?_⟩
  ·rw [List.length_map,List.length_map,List.length_take]
   have:x.length < sizeLine:=hl
   have e:x.cps.toList.length=x.length:=by simp [Str.length]
   rw [e]
   omega
  ·rw [List.take_add_one,hi',List.map_append,List.map_append,PySem.StrLaws.found_one]
   rfl
  ·rw [eT]
 ·obtain⟨rfl,rfl⟩:=hh
  refine hq D _ nD (aq.new nD) ?_
  rw [ae,List.take_of_length_le (by simp)]
theorem Ak:FnScope ["text", "signs", "most"] ["text", "signs", "most"] (al yF):=‹2›
theorem zg {f:Addr}{fd:FuncData} (F:Fun K "has_only" "has_only" yF f fd) (N:Free mg):FnOk P w K mg base CX0 1 f fd ["text", "signs", "most"] xS:=by
 refine F.ok (k:=0) Ak (λvs H Q E h=>?_) (λcdv A outer s H vs Q E hr h=>?_)
 ·obtain⟨x,z,m,rfl,_⟩:=h
  rfl
 ·obtain⟨x,z,m,rfl,hl,hq⟩:=h
  refine⟨_,aj (az (da (jA fi fi ai (aG i9 (by rfl) N.len PySem.boot_len (aa (pv 0) ad)) (pv 2))
   (eJ (aG (lw rfl) (by rfl) N.all PyProof.Rows.Boot.«all» (aa (uz (y:="signs") (i:=1) rfl (yS (pv 0)) rfl rfl (by decide) (by decide) rfl (by decide) rfl (.inr (.inl rfl)) (by show (some NameKind.cell)≠some NameKind.local;decide) (.inl rfl) rfl (λC fp s H=>dE) (λC fp s H=>cS rL (pv 0) (pv 1) (by with_unfolding_all rfl))) ad))))),?_⟩
  have gr:∀{b},iT x z m=b->Q (.bl b) H:=λ{b} e=>by rw [<- e];exact hq H aq.refl
  refine⟨_,rfl,x,rfl,Nat.le_of_lt hl,_,_,rfl,rfl,_,rfl,fM (λh1=>?_) λh1=>⟨_,rfl,b9 (gr ?_)⟩⟩
  ·refine⟨_,rfl,_,_,rfl,rfl,_,rfl,fM (λh2=>?_) λh2=>gr ?_⟩
   ·unfold tCB cW
    refine t3 rfl rfl hl λD H' nD g hD=>⟨D,_,rfl,SqL.of hD,?_⟩
    have e:iT x z m=(x.cps.toList.map (inZ z)).all id:=by
     unfold iT
     rw [h1,h2,Bool.true_and,Bool.true_and,List.all_map];rfl
    rw [<- e]
    exact hq H' g
   ·unfold iT
    rw [Bool.eq_false_iff.mpr h2,Bool.false_and,Bool.and_false]
  ·unfold iT
   rw [Bool.eq_false_iff.mpr h1,Bool.false_and]
noncomputable def cY:Sp:=λvs H Q _=>∃(i lo hi:Int),vs=[.int i,.int lo,.int hi]/\Q (.bl (decide (lo<=i) && decide (i<=hi))) H
noncomputable def qj:Sp:=λvs H Q _=>∃(i:Int),vs=[.int i]/\Q (.bl (decide (0<=i) && decide (i<=399))) H
noncomputable def lN:Sp:=λvs H Q _=>∃x:Str,vs=[.str x]/\x.length < sizeLine/\∀H',aq H H'->Q (.bl (iT x gI 8)) H'
noncomputable def qm:Sp:=λvs H Q _=>∃(f l:Int),vs=[.int f,.int l]/\0<=f/\f<=l/\l < 400/\Q .non H
theorem kK:FnScope ["thing", "low", "high"] ["thing", "low", "high"] (al fE):=‹2›
theorem jD {f:Addr}{fd:FuncData} (F:Fun K "is_whole" "is_whole" fE f fd) (N:Free mg):FnOk P w K mg base CX0 1 f fd ["thing", "low", "high"] cY:=by
 refine F.ok (k:=0) kK (λvs H Q E h=>?_) (λcdv A outer s H vs Q E hr h=>?_)
 ·obtain⟨i,lo,hi,rfl,_⟩:=h
  rfl
 ·obtain⟨i,lo,hi,rfl,q⟩:=h
  have hu:=aS hr
  refine⟨_,(aj (az (da (aG bS (by rfl) N.isinstance PyProof.Rows.Boot.«isinstance» (aa (pv 0) (aa (de (v:=.ty "int") (by rfl) N.int PyProof.Rows.Boot.«int» rfl) ad))) (da (p5 (aG bS (by rfl) N.isinstance PyProof.Rows.Boot.«isinstance» (aa (pv 0) (aa (de (v:=.ty "bool") (by rfl) N.bool PyProof.Rows.Boot.«bool» rfl) ad)))) (eJ (jA fi fi (pv 1) (pv 0) (pv 2))))))),?_⟩
  refine⟨_,rfl,.int i,"int", _,true,rfl,.int i,by rfl,_,rfl,bT ⟨_,rfl,.int i,"bool", _,false,rfl,.int i,by rfl,_,rfl,_,rfl,bT ?_⟩⟩
  refine⟨_,rfl,_,rfl,_,_,rfl,rfl,_,rfl,fM (λh1=>⟨_,rfl,_,_,rfl,rfl,?_⟩) λh1=>?_⟩
  ·rw [h1,Bool.true_and]at q
   exact q
  ·rw [Bool.eq_false_iff.mpr h1,Bool.false_and]at q
   exact q
theorem wB:FnScope ["thing"] ["thing"] (al oQ):=‹2›
theorem uU {f f1:Addr}{fd:FuncData} (F:Fun K "is_day" "is_day" oQ f fd) (N:Con mg){fd1:FuncData} (CW:Cal P w K mg base "is_whole" 1 ["thing", "low", "high"] cY f1 fd1):FnOk P w K mg base CX0 2 f fd ["thing"] qj:=by
 obtain⟨t1,c1⟩:=N.lastday
 refine F.ok (k:=1) wB (λvs H Q E h=>?_) (λcdv A outer s H vs Q E hr h=>?_)
 ·obtain⟨i,rfl,_⟩:=h
  rfl
 ·obtain⟨i,rfl,q⟩:=h
  have hu:=aS hr
  refine⟨_,(aj (az (am CW.ok (hr.mono (by decide)) rfl CW.nm CW.kp CW.bd .nil ao (aa (pv 0) (aa ai (aa (dc (v:=.int 399) (by rfl) c1 ⟨_,rfl⟩) ad)))))),?_⟩
  exact⟨_,rfl,i,0,399,rfl,q⟩
theorem yw:FnScope ["thing"] ["thing"] (al u7):=‹2›
theorem x9 {f f1:Addr}{fd:FuncData} (F:Fun K "is_name" "is_name" u7 f fd) (N:Free mg) (C:Con mg){fd1:FuncData} (CH:Cal P w K mg base "has_only" 1 ["text", "signs", "most"] xS f1 fd1):FnOk P w K mg base CX0 2 f fd ["thing"] lN:=by
 obtain⟨t1,c1⟩:=C.letters
 obtain⟨t2,c2⟩:=C.eight
 refine F.ok (k:=1) yw (λvs H Q E h=>?_) (λcdv A outer s H vs Q E hr h=>?_)
 ·obtain⟨x,rfl,_⟩:=h
  rfl
 ·obtain⟨x,rfl,hl,hq⟩:=h
  have hu:=aS hr
  refine⟨_,(aj (az (da (aG bS (by rfl) N.isinstance PyProof.Rows.Boot.«isinstance» (aa (pv 0) (aa (de (v:=.ty "str") (by rfl) N.str PyProof.Rows.Boot.«str» rfl) ad))) (eJ (am CH.ok (hr.mono (by decide)) rfl CH.nm CH.kp CH.bd .nil ao (aa (pv 0) (aa (dc (v:=.str gI) (by rfl) c1 ⟨_,rfl⟩) (aa (dc (v:=.int 8) (by rfl) c2 ⟨_,rfl⟩) ad)))))))),?_⟩
  exact⟨_,rfl,.str x,"str", _,true,rfl,.str x,by rfl,_,rfl,bT ⟨_,rfl,x,gI,8,rfl,hl,hq⟩⟩
theorem wE:FnScope ["first", "last"] ["first", "last"] (al oU):=‹2›
theorem uX {f f1 f2:Addr}{fd:FuncData} (F:Fun K "check_stretch" "check_stretch" oU f fd) (N:Con mg){fd1 fd2:FuncData} (CW:Cal P w K mg base "is_whole" 1 ["thing", "low", "high"] cY f1 fd1) (CY:Cal P w K mg base "is_day" 2 ["thing"] qj f2 fd2):FnOk P w K mg base CX0 3 f fd ["first", "last"] qm:=by
 obtain⟨t1,c1⟩:=N.lastday
 refine F.ok (k:=2) wE (λvs H Q E h=>?_) (λcdv A outer s H vs Q E hr h=>?_)
 ·obtain⟨f,l,rfl,_⟩:=h
  rfl
 ·obtain⟨f,l,rfl,h0,h1,h2,q⟩:=h
  have hu:=aS hr
  refine⟨_,(ah (aW (bV (bL (am CY.ok (hr.mono (by decide)) rfl CY.nm CY.kp CY.bd .nil ao (aa (pv 0) ad)))) (aj cA) aF)
   (aj (aW (bV (bL (am CW.ok (hr.mono (by decide)) rfl CW.nm CW.kp CW.bd .nil ao (aa (pv 1) (aa (pv 0) (aa (dc (v:=.int 399) (by rfl) c1 ⟨_,rfl⟩) ad)))))) (aj cA) aF))),?_⟩
  refine⟨_,rfl,f,rfl,_,rfl,?_⟩
  rw [show (decide (0<=f) && decide (f<=399))=true from by rw [decide_eq_true h0,decide_eq_true (show f<=399 by omega)];rfl]
  refine b9 ⟨_,rfl,_,rfl,l,f,399,rfl,_,rfl,?_⟩
  rw [show (decide (f<=l) && decide (l<=399))=true from by rw [decide_eq_true h1,decide_eq_true (show l<=399 by omega)];rfl]
  exact b9 q
end Mine
namespace L2
open PySem PySem.Spec PyProof.Rows
theorem cr {α β:Type}{F:α->β->Prop}:∀{xs:List α}{ys:List β}{x:α}{y:β},Paired F xs ys->F x y->Paired F (xs++[x]) (ys++[y])
 | _,_,_,_,.nil,h=>.cons h .nil
 | _,_,_,_,.cons a t,h=>.cons a (cr t h)
section
variable {D:Ends}{σ:St}{H:Hp}{Q:VK}
theorem bi (h:D.nx σ H):t4 D σ H:=h
theorem bA {te:TE} (h:te σ H D.rt):A6 te D σ H:=h
theorem cQ {te:TE} (h:te σ H λ_ H1=>D.nx σ H1):xO te D σ H:=h
theorem au {t u:TS} (h:t { D with nx:=u D } σ H):yj t u D σ H:=h
theorem gZ {ta tb:TE} (h:ta σ H λx H1=>∃c,x=.bl c/\if c=true then tb σ H1 Q else Q (.bl false) H1):xP ta tb σ H Q:=h
theorem xX {r:List V->Hp->VK->Prop}{t:TA} (h:t σ H λvs H1=>r vs H1 Q):tCB r t σ H Q:=h
theorem j5 {ta:TE}{tr:TA}{R:List V->Hp->Prop} (h:ta σ H λx H1=>tr σ H1 λxs H2=>R (x::xs) H2):cW ta tr σ H R:=h
theorem As {r:R2}{ta tb:TE} (h:ta σ H λx H1=>tb σ H1 λy H2=>r x y H2 Q):tOp r ta tb σ H Q:=h
theorem yN {K:W.Frag}{ta tv:TE}{f:Str} (h:tv σ H λy H1=>ta σ H1 λx H2=>∃a C dx fs,x=.ref a/\H2 a=some (.ins C dx fs)/\Cls K C/\NoAttr K C f/\fs.length < 1000/\D.nx σ (upd H2 a (.ins C dx (aX f y fs)))):An K ta tv f D σ H:=h
theorem yK {t:TA} (h:t σ H λxs H1=>xs.length<=sizeLine/\∀p,H1 p=none->Q (.ref p) (upd H1 p (.lst xs))):t5 t σ H Q:=h
theorem qx {K:W.Frag}{T:String}{r:V->List V->Hp->VK->Prop}{to:TE}{t:TA} (h:to σ H λx H1=>tyV K T x H1/\t σ H1 λxs H2=>r x xs H2 Q):tBM K T r to t σ H Q:=h
theorem aI {te:TE}{g:TG} (h:te σ H λx H1=>g x σ H1 D.nx):t7 te g D σ H:=h
end
theorem dG (x:Str):x.length=x.cps.toList.length:=by simp [Str.length]
theorem xT {x:Str}{n:Nat} (h:n<=x.length):(Txt.slice x none (some (n:Int))).cps.toList=x.cps.toList.take n:=by
 rw [eq_of_beq (slice_to_min_closes (x:=x) (n:=(n:Int)) (m:=if (x.length:Int) < n then (x.length:Int) else n) ‹1› rfl),if_neg ‹1›]
 show (x.cps.toList.drop 0).take ((n:Int) - 0).toNat=_
 rw [List.drop_zero,Int.sub_zero,Int.toNat_natCast]
theorem wn {x:Str}{n:Nat} (h:n<=x.length):(Txt.slice x (some (n:Int)) none).cps.toList=x.cps.toList.drop n:=by
 rw [slice_from_eq (x:=x) (i:=(n:Int)) (b:=x.length) ‹1› ‹1› rfl]
 show (x.cps.toList.drop (n:Int).toNat).take _=_
 rw [Int.toNat_natCast,List.take_of_length_le]
 rw [List.length_drop,<- dG]
 omega
theorem fZ (x y:Str):(x++y).cps.toList=x.cps.toList++y.cps.toList:=by
 show (x.cps++y.cps).toList=_
 rw [Array.toList_append]
theorem vk (zs:List Str):(Str.join ‹""› zs).cps.toList=(zs.map λz=>z.cps.toList).flatten:=by
 induction zs with
 | nil=>rfl
 | cons z zs ih=>
  cases zs with
  | nil=>simp [Str.join]
  | cons y ys=>
   show (z++‹""›++Str.join ‹""› (y::ys)).cps.toList=_
   rw [fZ,fZ,ih,List.map_cons (l:=y::ys),List.flatten_cons,show ‹""›.cps.toList=[] from rfl,List.append_nil]
theorem AF (zs:List Str):(Txt.join ‹""› zs).cps.toList=(zs.map λz=>z.cps.toList).flatten:=by
 show (Builtin.Str.glued ‹""› zs).cps.toList=_
 rw [StrLaws.glued_eq_join]
 exact vk zs
theorem wj {x y:Str} (h:x.cps.toList=y.cps.toList):x=y:=by
 cases x;cases y
 congr 1
 exact Array.toList_inj.mp h
noncomputable def jM (b:List Nat) (at_ s k:Nat):List Nat:=b.take at_++(s::b.drop at_)++List.replicate (k % 3) 122
theorem qD {b:List Nat}{at_ s k:Nat} (h:at_<=b.length):(jM b at_ s k)[at_]?=some s:=by
 unfold jM
 rw [List.append_assoc,List.getElem?_append_right (by rw [List.length_take];omega),List.length_take,Nat.min_eq_left h,Nat.sub_self]
 rfl
theorem vi {b:List Nat}{at_ s k:Nat} (h:at_<=b.length):(jM b at_ s k).length=b.length+1+k % 3:=by
 unfold jM
 rw [List.length_append,List.length_append,List.length_cons,List.length_take,List.length_drop,List.length_replicate,Nat.min_eq_left h]
 omega
theorem vh {b:List Nat}{at_ s k:Nat}{P:Nat->Prop} (hb:∀c∈b,P c) (hs:P s) (hz:P 122):∀c∈jM b at_ s k,P c:=λc hc=>by
 unfold jM at hc
 rcases List.mem_append.mp hc with hc | hc
 ·rcases List.mem_append.mp hc with hc | hc
  ·exact hb c (List.mem_of_mem_take hc)
  ·rcases List.mem_cons.mp hc with hc | hc
   ·rw [hc];exact hs
   ·exact hb c (List.mem_of_mem_drop hc)
 ·rw [(List.mem_replicate.mp hc).2];exact hz
theorem wk {f s k k':Int} (hs:s=1\/s=5\/s=7\/s=9\/s=25) (h0:0<=k) (h1:k < 8) (h2:0<=k') (h3:k' < 8) (e:(f+s * k) % 26=(f+s * k') % 26):k=k':=by
 rcases hs with rfl | rfl | rfl | rfl | rfl <;> omega
theorem qp {P:Nat->Prop}:∀{ys:List V},(∀(i:Nat) (y:V),ys[i]?=some y->∃d:Nat,P d/\y=V.str ⟨#[d]⟩)->∃ds:List Nat,ys=(ds.map λd=>(⟨#[d]⟩:Str)).map V.str/\(∀d∈ds,P d)/\ds.length=ys.length
 | [],_=>⟨[],rfl,(λ_ h=>nomatch h),rfl⟩
 | y::ys,h=>by
  obtain⟨d,h1,h2⟩:=h 0 y rfl
  obtain⟨ds,e1,e2,e3⟩:=qp (ys:=ys) λi z e=>h (i+1) z (by simpa using e)
  refine⟨d::ds,by rw [h2,List.map_cons,List.map_cons,<- e1],λx hx=>?_,by rw [List.length_cons,List.length_cons,e3]⟩
  rcases List.mem_cons.mp hx with hx | hx
  ·rw [hx];exact h1
  ·exact e2 x hx
theorem hW:∀ds:List Nat,((ds.map λd=>(⟨#[d]⟩:Str)).map λz=>z.cps.toList).flatten=ds
 | []=>rfl
 | d::ds=>by rw [List.map_cons,List.map_cons,List.flatten_cons,hW ds];rfl
theorem iL:∀ds:List Nat,((ds.map λd=>(⟨#[d]⟩:Str)).map (·.length)).sum=ds.length
 | []=>rfl
 | d::ds=>by rw [List.map_cons,List.map_cons,List.sum_cons,iL ds,List.length_cons];show 1+_=_;omega
theorem ve {α β:Type}{f:Nat->β}{g:β->α}{n:Nat}{ys:List α} (hl:ys.length=n) (h:∀(i:Nat) (y:α),ys[i]?=some y->y=g (f i)):ys=((List.range n).map f).map g:=by
 apply List.ext_getElem?
 intro i
 rw [List.map_map,List.getElem?_map]
 by_cases hi:i < n
 ·rw [List.getElem?_range hi]
  have e:=List.getElem?_eq_getElem (l:=ys) (i:=i) ‹1›
  rw [e,h i _ e]
  rfl
 ·rw [List.getElem?_eq_none ‹1›,List.getElem?_eq_none (by rw [List.length_range];omega)]
  rfl
def lE (J:It) (sub:List Nat) (tt:TT) (te:TE) (σ:St) (Q:VK) (H1:Hp):Prop:=∀D,H1 D=none->∃W:Nat->Nat->List V->Hp->Prop,(∃m,W 0 m [] (upd H1 D (.lst [])))/\∀i m ys H2,W i m ys H2->
 (J.stop i H2/\Q (.ref D) H2)\/(J.go i H2/\∃N:List V->Hp->Prop,(∀ys' H',N ys' H'->∃m',m' < m/\W (i+1) m' ys' H')/\∀v H3,J.yld i H2 v H3->tt (some v::bX sub σ) H3 λb H4=>if b=true then
  te (some v::bX sub σ) H4 λy H5=>H5 D=some (.lst ys)/\ys.length < sizeLine/\N (ys++[y]) (upd H5 D (.lst (ys++[y])))
  else N ys H4)
def vT (K:PySem.W.Frag) (J:It) (sub:List Nat) (tt:TT) (te:TE) (σ:St) (Q:VK) (H1:Hp):Prop:=∀D,H1 D=none->∃W:Nat->Nat->List V->Hp->Prop,(∃m,W 0 m [] (upd H1 D (.lst [])))/\∀i m ys H2,W i m ys H2->
 (J.stop i H2/\Q (.ref D) H2)\/(J.go i H2/\∃N:List V->Hp->Prop,(∀ys' H',N ys' H'->∃m',m' < m/\W (i+1) m' ys' H')/\∀v H3,J.yld i H2 v H3->∃(t:Addr) (a b:V),v=.ref t/\SqT K H3 t [a,b]/\tt (some a::some b::bX sub σ) H3 λc H4=>if c=true then
  te (some a::some b::bX sub σ) H4 λy H5=>H5 D=some (.lst ys)/\ys.length < sizeLine/\N (ys++[y]) (upd H5 D (.lst (ys++[y])))
  else N ys H4)
section
variable {wi:TI}{sub:List Nat}{tt:TT}{te:TE}{σ:St}{H:Hp}{Q:VK}{K:W.Frag}
theorem fT (h:wi σ H λJ H1=>lE J sub tt te σ Q H1):jf wi sub tt te σ H Q:=h
theorem ui (h:wi σ H λJ H1=>vT K J sub tt te σ Q H1):ou K wi sub tt te σ H Q:=h
theorem iQ {n:Nat} (P:Nat->V->Prop) (hn:n<=1000) (hte:∀(i:Nat) (H2:Hp) (R:VK),i < n->(∀y,P i y->R y H2)->te (some (.int (0+(i:Int)))::bX sub σ) H2 R)
  (hq:∀(D:Addr) (ys:List V),H D=none->ys.length=n->(∀(i:Nat) (y:V),ys[i]?=some y->P i y)->Q (.ref D) (upd H D (.lst ys))):lE (Itr 0 n) sub (λ_ H Q=>Q true H) te σ Q H:=by
 intro D nD
 refine fg (lo:=0) (n:=n) (sub:=sub) (tt:=λ_ H Q=>Q true H) (te:=te) (Q:=Q) (σ:=σ) (λi ys H2=>ys.length=i/\(∀(j:Nat) (y:V),ys[j]?=some y->P j y)/\H2=upd H D (.lst ys)) ⟨rfl,(λj y e=>by simp at e),rfl⟩ (λi ys H2 hi hh=>?_) λys H2 hh=>?_
 ·obtain⟨e1,e2,rfl⟩:=hh
  refine bT (hte i _ _ hi λy hy=>⟨ae,bo ‹1›,by rw [List.length_append,e1];rfl,λj z ez=>?_,eT⟩)
  by_cases hj:j < ys.length
  ·rw [List.getElem?_append_left hj]at ez
   exact e2 j z ez
  ·have hj2:j=i:=by
    have:=(List.getElem?_eq_some_iff.mp ez).1
    rw [List.length_append]at this
    have:j < ys.length+1:=this
    omega
   rw [List.getElem?_append_right ‹1›,hj2,e1,Nat.sub_self]at ez
   cases (show some y=some z from ez)
   rw [hj2]
   exact hy
 ·obtain⟨e1,e2,rfl⟩:=hh
  exact hq D ys nD e1 e2
theorem mB {n:Nat}{c:Nat->Bool} (hn:n<=1000) (htt:∀(i:Nat) (H2:Hp) (R:Bool->Hp->Prop),i < n->(∀b o,H b=some o->H2 b=some o)->R (c i) H2->tt (some (.int (0+(i:Int)))::bX sub σ) H2 R)
  (hte:∀(i:Nat) (H2:Hp) (R:VK),i < n->R (.int (i:Int)) H2->te (some (.int (0+(i:Int)))::bX sub σ) H2 R)
  (hq:∀(D:Addr),H D=none->Q (.ref D) (upd H D (.lst (((List.range n).filter c).map λi:Nat=>V.int (i:Int))))):lE (Itr 0 n) sub tt te σ Q H:=by
 intro D nD
 refine fg (lo:=0) (n:=n) (sub:=sub) (tt:=tt) (te:=te) (Q:=Q) (σ:=σ) (λi ys H2=>ys=((List.range i).filter c).map (λi:Nat=>V.int (i:Int))/\H2=upd H D (.lst ys)) ⟨rfl,rfl⟩ (λi ys H2 hi hh=>?_) λys H2 hh=>?_
 ·obtain⟨rfl,rfl⟩:=hh
  refine htt i _ _ hi (λb o e=>by rw [ag (af e nD)];exact e) ?_
  have lf:(((List.range i).filter c).map λi:Nat=>V.int (i:Int)).length<=i:=by
   rw [List.length_map]
   have:=List.length_filter_le c (List.range i)
   rw [List.length_range]at this
   exact this
  cases hc:c i with
  | true=>
   refine bT (hte i _ _ hi ⟨ae,bo ‹1›,?_,eT⟩)
   rw [List.range_succ,List.filter_append,List.map_append,List.filter_cons,hc];rfl
  | false=>
   refine b9 ⟨?_,?_⟩
   ·rw [List.range_succ,List.filter_append,List.map_append,List.filter_cons,hc];simp
   ·rfl
 ·obtain⟨rfl,rfl⟩:=hh
  exact hq D nD
theorem pH {a:Addr}{xs:List V} (P:Nat->V->Prop) (ha:H a=some (.lst xs)) (hn:xs.length<=1000) (hte:∀(i:Nat) (x:V) (H2:Hp) (R:VK),xs[i]?=some x->(∀y,P i y->R y H2)->te (some (.int (i:Int))::some x::bX sub σ) H2 R)
  (hq:∀(D:Addr) (ys:List V) (H':Hp),H D=none->(∀b o,H b=some o->H' b=some o)->H' D=some (.lst ys)->ys.length=xs.length->(∀(i:Nat) (y:V),ys[i]?=some y->P i y)->Q (.ref D) H'):vT K (Ite K a) sub (λ_ H Q=>Q true H) te σ Q H:=by
 intro D nD
 refine sF (K:=K) (a:=a) (xs:=xs) (sub:=sub) (tt:=λ_ H Q=>Q true H) (te:=te) (Q:=Q) (σ:=σ) (λi ys H2=>ys.length=i/\(∀(j:Nat) (y:V),ys[j]?=some y->P j y)/\(∀b o,H b=some o->H2 b=some o)/\H2 D=some (.lst ys))
  ⟨rfl,(λj y e=>by simp at e),(λb o e=>by rw [ag (af e nD)];exact e),ae⟩ (λi ys H2 _ hh=>SqL.of (hh.2.2.1 _ _ ha)) (λi x ys H2 t hx hh nt=>?_) λys H2 hh=>?_
 ·obtain⟨e1,e2,g,hD⟩:=hh
  have hi:=(List.getElem?_eq_some_iff.mp hx).1
  have hD2:upd H2 t (.tup [.int (i:Int),x]) D=some (.lst ys):=by rw [ag (af hD nt)];exact hD
  refine bT (hte i x _ _ hx λy hy=>⟨hD2,bo ‹1›,by rw [List.length_append,e1];rfl,λj z ez=>?_,λb o e=>?_,ae⟩)
  ·by_cases hj:j < ys.length
   ·rw [List.getElem?_append_left hj]at ez
    exact e2 j z ez
   ·have hj2:j=i:=by
     have:=(List.getElem?_eq_some_iff.mp ez).1
     rw [List.length_append]at this
     have:j < ys.length+1:=this
     omega
    rw [List.getElem?_append_right ‹1›,hj2,e1,Nat.sub_self]at ez
    cases (show some y=some z from ez)
    rw [hj2]
    exact hy
  ·rw [ag (af e nD),ag (af (g _ _ e) nt)]
   exact g _ _ e
 ·obtain⟨e1,e2,g,hD⟩:=hh
  exact hq D ys H2 nD g hD e1 e2
end
end L2
namespace Mine
open PySem L2
variable {P:Program}{w:World}{K:W.Frag}{mg:Str->Option Value}{base:Heap}
noncomputable abbrev u9:Stmt:=top 47
theorem vf {i:Int} (h0:0<=i) (h1:i < 26):atI gI.cps.toList i=some (97+i.toNat):=by
 obtain⟨j,rfl⟩:∃j:Nat,i=(j:Int):=⟨i.toNat,by omega⟩
 refine cD ?_
 have hj:j < 26:=by omega
 rw [Int.toNat_natCast]
 have:∀j,j < 26->gI.cps.toList[j]?=some (97+j):=‹0›
 exact this j hj
theorem vD {d:Int} (h0:0<=d) (h1:d < 5):∃s:Int,(s=1\/s=5\/s=7\/s=9\/s=25)/\atI [V.int 1,V.int 5,V.int 7,V.int 9,V.int 25] d=some (V.int s):=by
 rcases (show d=0\/d=1\/d=2\/d=3\/d=4 by omega) with rfl | rfl | rfl | rfl | rfl
 ·exact⟨1,by simp,rfl⟩
 ·exact⟨5,by simp,rfl⟩
 ·exact⟨7,by simp,rfl⟩
 ·exact⟨9,by simp,rfl⟩
 ·exact⟨25,by simp,rfl⟩
def mG (c:Nat):Prop:=97<=c/\c<=122
theorem xq {c:Nat} (h:mG c):inZ gI c=true:=by
 unfold inZ
 refine decide_eq_true ?_
 have:∀c,c < 123->97<=c->c∈gI.cps.toList:=‹0›
 exact this c (by unfold mG at h;omega) h.1
structure KeyOk (k:Str):Prop where
 has:iT k gI 8=true
 len:k.length < sizeLine
 nm:Nm k
 l7:k.length<=7
theorem vj {k:Str} (h1:1<=k.length) (h2:k.length<=7) (hc:∀c∈k.cps.toList,mG c):KeyOk k:=by
 refine⟨?_,Nat.lt_of_le_of_lt h2 (by decide),?_,h2⟩
 ·unfold iT
  rw [decide_eq_true (show (1:Int)<=k.length by omega),decide_eq_true (show (k.length:Int)<=8 by omega),Bool.true_and,Bool.true_and,List.all_eq_true]
  exact λc hcc=>xq (hc c hcc)
 ·unfold Nm
  rw [<- Array.all_toList,List.all_eq_true]
  intro c hcc
  have:=hc c hcc
  unfold mG at this
  exact decide_eq_true ‹1›
noncomputable def tF:Sp:=λvs H Q _=>∃(c:Int),vs=[.int c]/\∀(l:Addr) (ks:List Str) (H':Hp),H l=none->aq H H'->H' l=some (.lst (ks.map V.str))->1<=ks.length->ks.length<=8->ks.Nodup->(∀k∈ks,KeyOk k)->Q (.ref l) H'
theorem fA:FnScope ["_law_cell_here", "_law_letters", "_law_base", "_law_at", "_law_first", "_law_step", "_law_many", "_law_signs"] ["_law_cell_here"] (al u9):=‹2›
theorem xc {f f1 f2:Addr}{fd:FuncData} (F:Fun K "_law_keys" "_law_keys" u9 f fd) (N:Free mg){fd1:FuncData} (CD:Cal P w K mg base "_law_draw" 2 ["_law_cell_here", "_law_k", "_law_many"] gy f1 fd1){fd2:FuncData} (CM:Cal P w K mg base "_law_mix" 1 ["_law_cell_here", "_law_k"] qf f2 fd2):FnOk P w K mg base CX0 3 f fd ["_law_cell_here"] tF:=by
 refine F.ok (k:=2) fA (λvs H Q E h=>?_) (λcdv A outer s H vs Q E hr h=>?_)
 ·obtain⟨c,rfl,_⟩:=h
  rfl
 ·obtain⟨c,rfl,q⟩:=h
  have hu:=aS hr
  refine⟨_,(ah (aB (i:=1) fA.nd rfl (Or.inr rfl) bh)
   (ah (aB (i:=2) fA.nd rfl (Or.inr rfl) (cT PySem.F.plainAttrs_str PySem.F.slot_str_join PySem.F.type_str_join xo bh (aa (kQ (cH rfl (cG rfl N.range (aa (am CD.ok (hr.mono (by decide)) rfl CD.nm CD.kp CD.bd .nil ao (aa (pv 0) (aa ai (aa ai ad)))) ad)) rfl rfl (by show ∀p∈_,iH [‹"_law_letters"›, ‹"_law_cell_here"›] p;decide) (by decide) rfl (by show ([‹"_law_j"›, ‹"_law_letters"›, ‹"_law_cell_here"›]:List Str).Nodup;decide) (.cons (i:=1) rfl (.inr (.inl rfl)) (by show (some NameKind.cell)≠some NameKind.local;decide) (.inl rfl) rfl (.cons (i:=0) rfl (.inr (.inl rfl)) (by show (some NameKind.cell)≠some NameKind.local;decide) (.inl rfl) rfl .nil)) (λC fp s H=>dE) (λC fp s H=>(aH vm (pv 1) (aE dS (am CM.ok (hr.mono (by decide)) rfl CM.nm CM.kp CM.bd .nil ao (aa (pv 2) (aa (aE bB ai (pv 0)) ad))) ai) (λ_ _=>rfl))))) ad)))
   (ah (aB (i:=3) fA.nd rfl (Or.inr rfl) (am CD.ok (hr.mono (by decide)) rfl CD.nm CD.kp CD.bd .nil ao (aa (pv 0) (aa ai (aa (aE bB (aG i9 (by rfl) N.len PySem.boot_len (aa (pv 2) ad)) ai) ad)))))
   (ah (aB (i:=4) fA.nd rfl (Or.inr rfl) (am CD.ok (hr.mono (by decide)) rfl CD.nm CD.kp CD.bd .nil ao (aa (pv 0) (aa ai (aa ai ad)))))
   (ah (aB (i:=5) fA.nd rfl (Or.inr rfl) (aH aR (be (aa ai (aa ai (aa ai (aa ai (aa ai ad)))))) (am CD.ok (hr.mono (by decide)) rfl CD.nm CD.kp CD.bd .nil ao (aa (pv 0) (aa ai (aa ai ad)))) (λ_ _=>rfl)))
   (ah (aB (i:=6) fA.nd rfl (Or.inl rfl) (aE bB ai (am CD.ok (hr.mono (by decide)) rfl CD.nm CD.kp CD.bd .nil ao (aa (pv 0) (aa ai (aa ai ad))))))
   (ah (j6 (i:=7) fA.nd rfl (Or.inl rfl) (cH rfl (cG rfl N.range (aa (pv 6) ad)) rfl rfl (by show ∀p∈_,iH [‹"_law_step"›, ‹"_law_letters"›, ‹"_law_first"›] p;decide) (by decide) rfl (by show ([‹"_law_k"›, ‹"_law_step"›, ‹"_law_letters"›, ‹"_law_first"›]:List Str).Nodup;decide) (.cons (i:=5) rfl (.inr (.inl rfl)) (by show (some NameKind.cell)≠some NameKind.local;decide) (.inl rfl) rfl (.cons (i:=1) rfl (.inr (.inl rfl)) (by show (some NameKind.cell)≠some NameKind.local;decide) (.inl rfl) rfl (.cons (i:=4) rfl (.inr (.inl rfl)) (by show (some NameKind.cell)≠some NameKind.local;decide) (.inl rfl) rfl .nil))) (λC fp s H=>dE) (λC fp s H=>(aH vm (pv 2) (aE dS (aE bB (pv 3) (aE eK (pv 1) (pv 0))) ai) (λ_ _=>rfl)))))
   (aj (az (kQ (p4 rfl (mf rfl N.enumerate (aa (pv 7) ad)) rfl rfl (by show ∀p∈_,iH [‹"_law_base"›, ‹"_law_at"›] p;decide) (by decide) rfl rfl (by show ([‹"_law_k"›, ‹"_law_sign"›, ‹"_law_base"›, ‹"_law_at"›]:List Str).Nodup;decide) (.cons (i:=2) rfl (.inr (.inl rfl)) (by show (some NameKind.cell)≠some NameKind.local;decide) (.inl rfl) rfl (.cons (i:=3) rfl (.inr (.inl rfl)) (by show (some NameKind.cell)≠some NameKind.local;decide) (.inl rfl) rfl .nil)) (λC fp s H=>dE) (λC fp s H=>(aE gE (aE gE (aE gE (cq oC (pv 2) dF (cw (pv 3))) (pv 1)) (cq oC (pv 2) (cw (pv 3)) dF)) (cq oC bh dF (cw (aE dS (pv 0) ai)))))))))))))))),?_⟩
  refine au (aI ?_)
  dsimp only [tC,aK]
  refine au (aI (qx ⟨rfl,j5 (fT ?_)⟩))
  refine⟨_,rfl,c,1,5,rfl,by decide,by decide,by decide,λm m0 m1=>⟨m,rfl,by omega,by omega,?_⟩⟩
  refine iQ (λ_ y=>∃d:Nat,mG d/\y=V.str ⟨#[d]⟩) ‹1› (λi H2 R hi hR=>?_) λD ys nD hl hy=>?_
  ·refine⟨_,rfl,_,rfl,_,rfl,_,_,rfl,rfl,c,50+(0+(i:Int)),rfl,by omega,by omega,λx x0 x1=>⟨_,_,rfl,rfl,(by show (0:Int) < 26;decide),gI,x % 26,_,rfl,rfl,by decide,vf (Int.emod_nonneg _ (by decide)) (Int.emod_lt_of_pos _ (by decide)),hR _ ⟨_,?_,rfl⟩⟩⟩
   have h1:=Int.emod_nonneg x (show (26:Int)≠0 by decide)
   have h2:=Int.emod_lt_of_pos x (show (0:Int) < 26 by decide)
   unfold mG
   omega
  obtain⟨ds,rfl,hds,ld⟩:=qp hy
  have ld4:ds.length<=4:=by omega
  refine⟨‹""›, D,ds.map λd=>(⟨#[d]⟩:Str),rfl,rfl,ae,?_,?_⟩
  ·rw [iL,List.length_map,show ‹""›.length=0 from rfl];omega
  have zc:(Txt.join ‹""› (ds.map λd=>(⟨#[d]⟩:Str))).cps.toList=ds:=by rw [AF,hW]
  generalize Txt.join ‹""› (ds.map λd=>(⟨#[d]⟩:Str))=z at zc
  have zl:z.length=ds.length:=by rw [dG,zc]
  have zs:z.length<=sizeLine:=Nat.le_trans (show z.length<=4 by omega) (by decide)
  dsimp only [aK]
  refine⟨_,rfl,_,rfl,z,rfl,zs,_,_,rfl,rfl,c,2,(z.length:Int)+1,rfl,by decide,by decide,by omega,λav a0 a1=>?_⟩
  obtain⟨at_,rfl⟩:∃j:Nat,av=(j:Int):=⟨av.toNat,by omega⟩
  refine⟨_,rfl,c,3,26,rfl,by decide,by decide,by decide,λf f0 f1=>?_⟩
  refine⟨by show 5<=sizeLine;decide,λl nl=>⟨_,rfl,c,4,5,rfl,by decide,by decide,by decide,λd d0 d1=>?_⟩⟩
  obtain⟨st,hst,es⟩:=vD d0 d1
  refine⟨l,_,d,V.int st,rfl,rfl,SqL.of ae,es,?_⟩
  refine⟨_,rfl,c,0,8,rfl,by decide,by decide,by decide,λmm mm0 mm1=>⟨_,_,rfl,rfl,?_⟩⟩
  have g2:aq H (upd (upd H D (.lst ((ds.map λd=>(⟨#[d]⟩:Str)).map V.str))) l (.lst [V.int 1,V.int 5,V.int 7,V.int 9,V.int 25])):=(aq.new nD).trans (aq.new nl)
  dsimp only
  refine au (aI (fT ?_))
  refine⟨_,rfl,1+mm,rfl,by omega,by omega,?_⟩
  refine iQ (λi y=>y=V.str ⟨#[97+((f+st * (i:Int)) % 26).toNat]⟩) ‹1› (λi H2 R hi hR=>?_) λD2 ys nD2 hl2 hy2=>?_
  ·refine⟨_,rfl,_,rfl,_,rfl,_,rfl,_,_,rfl,rfl,.inl (by rcases hst with rfl | rfl | rfl | rfl | rfl <;> decide),_,_,rfl,rfl,_,_,rfl,rfl,(by show (0:Int) < 26;decide),gI,_,_,rfl,rfl,by decide,vf (Int.emod_nonneg _ (by decide)) (Int.emod_lt_of_pos _ (by decide)),hR _ ?_⟩
   rw [Int.zero_add]
  have e2:=ve (f:=λi:Nat=>(⟨#[97+((f+st * (i:Int)) % 26).toNat]⟩:Str)) (g:=V.str) hl2 hy2
  dsimp only [aK]
  refine bA (ui ?_)
  refine⟨_,rfl,D2,rfl,⟨_,SqL.of ae⟩,?_⟩
  have hmm:(1+mm).toNat<=8:=by omega
  refine pH (λi y=>y=V.str ⟨(jM ds at_ (97+((f+st * (i:Int)) % 26).toNat) i).toArray⟩) ae ‹1› (λi x H2 R hx hR=>?_) λD3 ys3 H3 nD3 g3 hD3 hl3 hy3=>?_
  ·have hx2:=hy2 i x hx
   subst hx2
   have hil:=(List.getElem?_eq_some_iff.mp hx).1
   have s1:(Txt.slice z none (some (at_:Int))).cps.toList=ds.take at_:=by rw [xT ‹1›,zc]
   have s2:(Txt.slice z (some (at_:Int)) none).cps.toList=ds.drop at_:=by rw [wn ‹1›,zc]
   have l1:(Txt.slice z none (some (at_:Int))).length<=4:=by rw [dG,s1,List.length_take];omega
   have l2:(Txt.slice z (some (at_:Int)) none).length<=4:=by rw [dG,s2,List.length_drop];omega
   have s3:(Txt.slice ‹"zz"› none (some ((i:Int) % 3))).cps.toList=List.replicate (i % 3) 122:=by
    rw [show ((i:Int) % 3)=((i % 3:Nat):Int) by omega,xT (by show i % 3<=2;omega)]
    rcases (show i % 3=0\/i % 3=1\/i % 3=2 by omega) with e | e | e <;> rw [e] <;> rfl
   have l3:(Txt.slice ‹"zz"› none (some ((i:Int) % 3))).length<=2:=by rw [dG,s3,List.length_replicate];omega
   have la:∀x y:Str,(x++y).length=x.length+y.length:=λx y=>by rw [dG,fZ,List.length_append,<- dG,<- dG]
   have big:∀n,n<=1000->n<=sizeLine:=λn h=>Nat.le_trans h (by decide)
   refine⟨_,rfl,_,rfl,_,rfl,z,rfl,zs,_,rfl,_,_,rfl,rfl,big _ (by show _+1<=1000;omega),_,rfl,_,rfl,_,rfl,z,rfl,zs,_,_,rfl,rfl,big _ ?_,_,rfl,_,_,rfl,rfl,(by show (0:Int) < 3;decide),_,rfl,‹"zz"›, rfl,by decide,_,_,rfl,rfl,big _ ?_,hR _ ?_⟩
   ·rw [la];show _+1+_<=1000;omega
   ·rw [la,la];show _+1+_+_<=1000;omega
   ·congr 1
    apply wj
    rw [fZ,fZ,fZ,s1,s2,s3]
    unfold jM
    simp
  have e3:=ve (f:=λi:Nat=>(⟨(jM ds at_ (97+((f+st * (i:Int)) % 26).toNat) i).toArray⟩:Str)) (g:=V.str) (hl3.trans (by rw [hl2])) hy3
  have mlt:∀i:Nat,(0:Int)<=(f+st * (i:Int)) % 26/\(f+st * (i:Int)) % 26 < 26:=λi=>⟨Int.emod_nonneg _ (by decide),Int.emod_lt_of_pos _ (by decide)⟩
  refine q D3 ((List.range (1+mm).toNat).map λi:Nat=>(⟨(jM ds at_ (97+((f+st * (i:Int)) % 26).toNat) i).toArray⟩:Str)) H3 ?_ ((g2.trans (aq.new nD2)).trans g3) (by rw [hD3,e3]) (by rw [List.length_map,List.length_range];omega) (by rw [List.length_map,List.length_range];exact hmm) ?_ λk hk=>?_
  ·exact(g2.trans (aq.new nD2)).free nD3
  ·unfold List.Nodup
   rw [List.pairwise_map]
   refine List.pairwise_lt_range.imp_of_mem λ{i j} hi hj hij he=>?_
   have hi:=List.mem_range.mp hi
   have hj:=List.mem_range.mp hj
   have he2:=congrArg (λs:Str=>s.cps.toList[at_]?) he
   dsimp only at he2
   rw [qD ‹1›,qD ‹1›]at he2
   have he3:=Option.some.inj he2
   have:=wk (f:=f) (s:=st) (k:=(i:Int)) (k':=(j:Int)) hst ‹1› ‹1› ‹1› ‹1› (by have:=mlt i;have:=mlt j;omega)
   omega
  ·obtain⟨i,hi,rfl⟩:=List.mem_map.mp hk
   have hl:(⟨(jM ds at_ (97+((f+st * (i:Int)) % 26).toNat) i).toArray⟩:Str).length=ds.length+1+i % 3:=by
    rw [dG]
    exact vi ‹1›
   refine vj ‹1› ‹1› (vh (P:=mG) hds (by have:=mlt i;unfold mG;omega) (by unfold mG;omega))
end Mine
namespace L2
open PySem PySem.Spec PyProof.Rows
structure SA where
 d:Addr
 k:Addr
 f:Addr
 g:Addr
 e:Addr
def SA.At (s:SA) (b:Addr):Prop:=b=s.d\/b=s.k\/b=s.f\/b=s.g\/b=s.e
noncomputable def sD (s:SA):List (Key × V):=[(Sum.inr ‹"keys"›,.ref s.k),(Sum.inr ‹"found"›,.ref s.f),(Sum.inr ‹"gone"›,.ref s.g),(Sum.inr ‹"deeds"›,.ref s.e)]
theorem ue (s:SA):ix [] (sD s)=sD s:=by rfl
theorem B4 (s:SA):valV (sD s) (Sum.inr ‹"keys"›)=some (.ref s.k):=by rfl
theorem Ap (s:SA):valV (sD s) (Sum.inr ‹"found"›)=some (.ref s.f):=by rfl
theorem Ao (s:SA):valV (sD s) (Sum.inr ‹"gone"›)=some (.ref s.g):=by rfl
theorem yG (s:SA):valV (sD s) (Sum.inr ‹"deeds"›)=some (.ref s.e):=by rfl
structure StAt (H:Hp) (s:SA) (B:Bk):Prop where
 dd:H s.d=some (.dK (sD s))
 hk:H s.k=some (.lst (B.ks.map V.str))
 hf:∃ps,H s.f=some (.lst (ps.map V.ref))/\mH H ps B.fs
 hg:H s.g=some (.dK B.gs)
 he:∃ps,H s.e=some (.lst (ps.map V.ref))/\fk H ps B.ds
 fe:s.f≠s.e
 kf:s.k≠s.f
 ke:s.k≠s.e
 dg:s.d≠s.g
theorem StAt.keep {H H':Hp}{s:SA}{B:Bk} (h:StAt H s B) (g:∀b o,s.At b->H b=some o->H' b=some o) (t:∀b xs,H b=some (.tup xs)->H' b=some (.tup xs)):StAt H' s B:=by
 obtain⟨ps,e1,r1⟩:=h.hf
 obtain⟨qs,e2,r2⟩:=h.he
 exact⟨g _ _ (.inl rfl) h.dd,g _ _ (.inr (.inl rfl)) h.hk,⟨ps,g _ _ (.inr (.inr (.inl rfl))) e1,Paired.mapP r1 λ_ _ e=>t _ _ e⟩,g _ _ (.inr (.inr (.inr (.inl rfl)))) h.hg,⟨qs,g _ _ (.inr (.inr (.inr (.inr rfl)))) e2,Paired.mapP r2 λ_ _ e=>t _ _ e⟩,h.fe,h.kf,h.ke,h.dg⟩
theorem StAt.d_k {H:Hp}{s:SA}{B:Bk} (h:StAt H s B):cB H s.d (.str ‹"keys"›) (some (.ref s.k)):=by rw [<- B4 s];exact cB.k (k:=Sum.inr _) h.dd
theorem StAt.d_f {H:Hp}{s:SA}{B:Bk} (h:StAt H s B):cB H s.d (.str ‹"found"›) (some (.ref s.f)):=by rw [<- Ap s];exact cB.k (k:=Sum.inr _) h.dd
theorem StAt.d_g {H:Hp}{s:SA}{B:Bk} (h:StAt H s B):cB H s.d (.str ‹"gone"›) (some (.ref s.g)):=by rw [<- Ao s];exact cB.k (k:=Sum.inr _) h.dd
theorem StAt.d_e {H:Hp}{s:SA}{B:Bk} (h:StAt H s B):cB H s.d (.str ‹"deeds"›) (some (.ref s.e)):=by rw [<- yG s];exact cB.k (k:=Sum.inr _) h.dd
theorem StAt.kind {H:Hp}{s:SA}{B:Bk} (h:StAt H s B){b:Addr} (hb:s.At b):(∃xs,H b=some (.lst xs))\/∃xs,H b=some (.dK xs):=by
 obtain⟨ps,e1,r1⟩:=h.hf
 obtain⟨qs,e2,r2⟩:=h.he
 rcases hb with rfl | rfl | rfl | rfl | rfl
 ·exact .inr ⟨_,h.dd⟩
 ·exact .inl ⟨_,h.hk⟩
 ·exact .inl ⟨_,e1⟩
 ·exact .inr ⟨_,h.hg⟩
 ·exact .inl ⟨_,e2⟩
theorem StAt.not_tup {H:Hp}{s:SA}{B:Bk} (h:StAt H s B){b:Addr}{xs:List V} (e:H b=some (.tup xs)):¬s.At b:=λz=>by
 rcases h.kind z with⟨ys,q⟩ | ⟨ys,q⟩ <;> rw [e]at q <;> cases q
theorem StAt.not_ins {H:Hp}{s:SA}{B:Bk} (h:StAt H s B){b C dx:Addr}{fs:List (Str × V)} (e:H b=some (.ins C dx fs)):¬s.At b:=λz=>by
 rcases h.kind z with⟨ys,q⟩ | ⟨ys,q⟩ <;> rw [e]at q <;> cases q
theorem StAt.not_none {H:Hp}{s:SA}{B:Bk} (h:StAt H s B){b:Addr} (e:H b=none):¬s.At b:=λz=>by
 rcases h.kind z with⟨ys,q⟩ | ⟨ys,q⟩ <;> rw [e]at q <;> cases q
theorem BkAt.dom {C:Addr}{H:Hp}{p:Addr}{a:BA}{F:Addr->Prop}{B:Bk} (h:BkAt C H p a F B):BkAt C H p a (λb=>F b/\H b≠none) B:=by
 obtain⟨ps,e1,r1⟩:=id h.hf
 obtain⟨qs,e2,r2⟩:=id h.hd
 obtain⟨ts,e3,l3,r3⟩:=id h.ht
 obtain⟨f1,f2,f3,f4,f5⟩:=h.fa
 have nn:∀{b:Addr}{o:HO},H b=some o->H b≠none:=λe z=>by rw [e]at z;cases z
 refine⟨h.ob,h.hn,h.hf,h.hw,h.hd,⟨ts,e3,l3,λi x e=>?_⟩,⟨⟨f1,nn h.hn⟩,⟨f2,nn e1⟩,⟨f3,nn h.hw⟩,⟨f4,nn e2⟩,⟨f5,nn e3⟩⟩,h.nn,h.fd,h.ft,h.dt,h.ok⟩
 obtain⟨kvs,q1,q2,q3⟩:=(r3 i x e).ex
 refine⟨⟨(r3 i x e).fp,nn q1⟩,(r3 i x e).nm,kvs,q1,q2,λk hk=>?_⟩
 obtain⟨ra,rs,q4,q5⟩:=q3 k hk
 obtain⟨ws,w1,w2⟩:=id q5.rl
 exact⟨ra,rs,q4,⟨q5.fp,nn w1⟩,q5.nm,q5.rl,q5.td,q5.i4,q5.dy⟩
theorem BkAt.M_F {C:Addr}{H:Hp}{p:Addr}{a:BA}{F:Addr->Prop}{B:Bk} (h:BkAt C H p a F B){b:Addr} (m:a.M b):F b:=by
 obtain⟨f1,f2,f3,f4,f5⟩:=h.fa
 rcases m with rfl | rfl | rfl | rfl <;> assumption
structure Pair (C L:Addr) (H:Hp) (p:Addr) (a:BA) (F:Addr->Prop) (s:SA) (B:Bk):Prop where
 bk:BkAt C H p a F B
 st:StAt H s B
 fd:∀b,F b->H b≠none/\b≠L
 sf:∀b,s.At b->¬F b
theorem xQ {H H':Hp} (g:∀b o,H b=some o->H' b=some o){b:Addr} (n:H b≠none):H' b≠none:=λz=>by
 cases e:H b with
 | none=>exact n e
 | some o=>
  rw [g b o e]at z
  cases z
theorem Pair.grow {C L:Addr}{H H':Hp}{p:Addr}{a:BA}{F:Addr->Prop}{s:SA}{B:Bk} (h:Pair C L H p a F s B) (g:∀b o,H b=some o->H' b=some o):Pair C L H' p a F s B:=
 ⟨h.bk.keep ⟨λb o _ e=>g b o e,λb xs e=>g b _ e,λb c dx fs e=>g b _ e⟩,h.st.keep (λb o _ e=>g b o e) λb xs e=>g b _ e,λb f=>⟨xQ g (h.fd b f).1,(h.fd b f).2⟩,h.sf⟩
theorem Pair.other {C L:Addr}{H H':Hp}{p:Addr}{a:BA}{F G:Addr->Prop}{s r:SA}{B:Bk}{ps:Array Value} (hL:H L=some (.tbl ps)) (h:Pair C L H p a F s B) (d1:∀b,F b->¬G b/\¬r.At b) (d2:∀b,s.At b->¬G b/\¬r.At b)
  (hr:∀b o,r.At b->H b=some o->(∃xs,o=.lst xs)\/∃xs,o=.dK xs) (hG:∀b,G b->(∀xs,H b≠some (.tup xs))/\∀c dx fs,H b≠some (.ins c dx fs))
  (g:∀b o,H b=some o->b≠L->¬G b->¬r.At b->H' b=some o):Pair C L H' p a F s B:=by
 have nr:∀{b:Addr}{o:HO},H b=some o->(∀xs,o≠.lst xs)->(∀xs,o≠.dK xs)->¬r.At b:=λ{b o} e n1 n2 z=>by
  rcases hr b o z e with⟨xs,q⟩ | ⟨xs,q⟩
  ·exact n1 xs q
  ·exact n2 xs q
 have tp:∀b xs,H b=some (.tup xs)->H' b=some (.tup xs):=λb xs e=>g b _ e (aD e hL (by intro z;cases z)) (λz=>(hG b z).1 xs e) (nr e (by intro _ z;cases z) (by intro _ z;cases z))
 refine⟨h.bk.keep ⟨λb o f e=>g b o e (h.fd b f).2 (d1 b f).1 (d1 b f).2,tp,λb c dx fs e=>g b _ e (aD e hL (by intro z;cases z)) (λz=>(hG b z).2 c dx fs e) (nr e (by intro _ z;cases z) (by intro _ z;cases z))⟩,
  h.st.keep (λb o sa e=>g b o e ?_ (d2 b sa).1 (d2 b sa).2) tp,λb f=>⟨λz=>?_,(h.fd b f).2⟩,h.sf⟩
 ·rcases h.st.kind sa with⟨ys,q⟩ | ⟨ys,q⟩
  ·exact aD q hL (by intro z;cases z)
  ·exact aD q hL (by intro z;cases z)
 ·have hn:=(h.fd b f).1
  cases e:H b with
  | none=>exact hn e
  | some o=>rw [g b o e (h.fd b f).2 (d1 b f).1 (d1 b f).2]at z;cases z
noncomputable def du (B:Bk):List Nat:=(List.range B.fs.length).filter λi=>(valV B.gs (Sum.inl (i:Int))).isNone
theorem oy {B:Bk}{i:Nat}{n:Nat} (e:(du B)[i]?=some n):n < B.fs.length/\valV B.gs (Sum.inl (n:Int))=none:=by
 have h:=List.mem_of_getElem? e
 obtain⟨h1,h2⟩:=List.mem_filter.mp h
 exact⟨List.mem_range.mp h1,Option.isNone_iff_eq_none.mp h2⟩
theorem Pair.keeps {C L:Addr}{H H':Hp}{p:Addr}{a:BA}{F:Addr->Prop}{s:SA}{B:Bk} (h:Pair C L H p a F s B) (g:∀b o,H b=some o->¬s.At b->H' b=some o):BkAt C H' p a F B:=
 h.bk.keep ⟨λb o f e=>g b o e λz=>h.sf b z f,λb xs e=>g b _ e (h.st.not_tup e),λb c dx fs e=>g b _ e (h.st.not_ins e)⟩
theorem StAt.find {H:Hp}{s:SA}{B:Bk} (h:StAt H s B){k:Str}{f l v:Int}{y z:Addr}{ps qs:List Addr} (e1:H s.f=some (.lst (ps.map V.ref))) (r1:mH H ps B.fs) (e2:H s.e=some (.lst (qs.map V.ref))) (r2:fk H qs B.ds)
  (ny:H y=none){H1 H2:Hp} (E1:H1=upd (upd H y (.tup [.str iJ,.int (B.fs.length:Int)])) s.e (.lst (qs.map V.ref++[.ref y]))) (nz:H1 z=none)
  (E2:H2=upd (upd H1 z (.tup [.str k,.int f,.int l,.int v,.int ((B.ds.length:Int)+1)])) s.f (.lst (ps.map V.ref++[.ref z]))) :
  StAt H2 s (B.find k f l v)/\∀b o,H b=some o->¬s.At b->H2 b=some o:=by
 have yn:=λ{b:Addr}{o:HO} (e:H b=some o)=>af e ny
 have k1:∀b o,H b=some o->b≠s.e->H1 b=some o:=λb o e n=>by rw [E1,ag n,ag (yn e)];exact e
 have k2:∀b o,H1 b=some o->b≠s.f->H2 b=some o:=λb o e n=>by rw [E2,ag n,ag (af e nz)];exact e
 have tp:∀b xs,H b=some (.tup xs)->H2 b=some (.tup xs):=λb xs e=>k2 b _ (k1 b _ e (aD e e2 (by intro z;cases z))) (aD e e1 (by intro z;cases z))
 have ey:H1 y=some (.tup [.str iJ,.int (B.fs.length:Int)]):=by rw [E1,ag (yn e2).symm,ae]
 have ee:H1 s.e=some (.lst (qs.map V.ref++[.ref y])):=by rw [E1,ae]
 refine⟨⟨k2 _ _ (k1 _ _ h.dd (aD h.dd e2 (by intro z;cases z))) (aD h.dd e1 (by intro z;cases z)),k2 _ _ (k1 _ _ h.hk h.ke) h.kf,⟨ps++[z],by rw [E2,ae,List.map_append];rfl,?_⟩,k2 _ _ (k1 _ _ h.hg (aD h.hg e2 (by intro z;cases z))) (aD h.hg e1 (by intro z;cases z)),⟨qs++[y],?_,?_⟩,h.fe,h.kf,h.ke,h.dg⟩,λb o e n=>k2 b o (k1 b o e λz=>n (.inr (.inr (.inr (.inr z))))) λz=>n (.inr (.inr (.inl z)))⟩
 ·refine cr (Paired.mapP r1 λ_ _ e=>tp _ _ e) ?_
  rw [E2,ag (af (k1 _ _ e1 h.fe) nz).symm,ae]
  rfl
 ·rw [k2 _ _ ee h.fe.symm,List.map_append];rfl
 ·exact cr (Paired.mapP r2 λ_ _ e=>tp _ _ e) (k2 _ _ ey (yn e1).symm)
theorem StAt.withd {H:Hp}{s:SA}{B:Bk} (h:StAt H s B){n:Nat}{y:Addr}{qs:List Addr} (e2:H s.e=some (.lst (qs.map V.ref))) (r2:fk H qs B.ds)
  (ny:H y=none){H1 H2:Hp} (E1:H1=upd (upd H y (.tup [.str gp,.int (n:Int)])) s.e (.lst (qs.map V.ref++[.ref y])))
  (E2:H2=upd H1 s.g (.dK (cF B.gs (Sum.inl (n:Int)) (.int ((B.ds.length:Int)+1))))) :
  StAt H2 s (B.withd n)/\∀b o,H b=some o->¬s.At b->H2 b=some o:=by
 have yn:=λ{b:Addr}{o:HO} (e:H b=some o)=>af e ny
 obtain⟨ps,e1,r1⟩:=id h.hf
 have k1:∀b o,H b=some o->b≠s.e->H1 b=some o:=λb o e n=>by rw [E1,ag n,ag (yn e)];exact e
 have k2:∀b o,H1 b=some o->b≠s.g->H2 b=some o:=λb o e n=>by rw [E2,ag n];exact e
 have tp:∀b xs,H b=some (.tup xs)->H2 b=some (.tup xs):=λb xs e=>k2 b _ (k1 b _ e (aD e e2 (by intro z;cases z))) (aD e h.hg (by intro z;cases z))
 have ey:H1 y=some (.tup [.str gp,.int (n:Int)]):=by rw [E1,ag (yn e2).symm,ae]
 have ee:H1 s.e=some (.lst (qs.map V.ref++[.ref y])):=by rw [E1,ae]
 refine⟨⟨k2 _ _ (k1 _ _ h.dd (aD h.dd e2 (by intro z;cases z))) h.dg,k2 _ _ (k1 _ _ h.hk h.ke) (aD h.hk h.hg (by intro z;cases z)),⟨ps,k2 _ _ (k1 _ _ e1 h.fe) (aD e1 h.hg (by intro z;cases z)),Paired.mapP r1 λ_ _ e=>tp _ _ e⟩,by rw [E2,ae];rfl,⟨qs++[y],?_,?_⟩,h.fe,h.kf,h.ke,h.dg⟩,λb o e n=>k2 b o (k1 b o e λz=>n (.inr (.inr (.inr (.inr z))))) λz=>n (.inr (.inr (.inr (.inl z))))⟩
 ·rw [k2 _ _ ee (aD e2 h.hg (by intro z;cases z)),List.map_append];rfl
 ·exact cr (Paired.mapP r2 λ_ _ e=>tp _ _ e) (k2 _ _ ey (yn h.hg).symm)
theorem Pair.after {C L:Addr}{H H3 H':Hp}{p:Addr}{a:BA}{F F':Addr->Prop}{s:SA}{B B':Bk}{ps:Array Value} (h:Pair C L H p a F s B) (h3:StAt H3 s B') (k3:∀b o,H b=some o->¬s.At b->H3 b=some o) (hL:H3 L=some (.tbl ps))
  (f1:∀b,F' b->F b\/H3 b=none) (g:∀b o,H3 b=some o->b≠L->¬a.M b->H' b=some o) (hb:BkAt C H' p a F' B') :
  Pair C L H' p a (λb=>F' b/\H' b≠none) s B'/\(∀b,(F' b/\H' b≠none)->F b\/H b=none)/\∀b o,H b=some o->b≠L->¬a.M b->¬s.At b->H' b=some o:=by
 have sM:∀b,s.At b->¬a.M b:=λb z m=>h.sf b z (h.bk.M_F m)
 have sL:∀b,s.At b->b≠L:=λb z=>by
  rcases h3.kind z with⟨ys,q⟩ | ⟨ys,q⟩
  ·exact aD q hL (by intro z;cases z)
  ·exact aD q hL (by intro z;cases z)
 have tM:∀b xs,H3 b=some (.tup xs)->H' b=some (.tup xs):=λb xs e=>by
  refine g b _ e (aD e hL (by intro z;cases z)) λm=>?_
  have hF:=h.bk.M_F m
  have hn:=(h.fd b hF).1
  obtain⟨q1,q2,q3,q4⟩:=(⟨h.bk.hf,h.bk.hw,h.bk.hd,h.bk.ht⟩:_/\_/\_/\_)
  obtain⟨w1,x1,_⟩:=q1
  obtain⟨w3,x3,_⟩:=q3
  obtain⟨w4,x4,_,_⟩:=q4
  have nS:¬s.At b:=λz=>h.sf b z hF
  rcases m with m | m | m | m
  ·rw [m]at e nS;rw [k3 _ _ x1 nS]at e;cases e
  ·rw [m]at e nS;rw [k3 _ _ q2 nS]at e;cases e
  ·rw [m]at e nS;rw [k3 _ _ x3 nS]at e;cases e
  ·rw [m]at e nS;rw [k3 _ _ x4 nS]at e;cases e
 refine⟨⟨hb.dom,h3.keep (λb o z e=>g b o e (sL b z) (sM b z)) tM,λb hf=>⟨hf.2,?_⟩,λb z hf=>?_⟩,λb hf=>?_,λb o e n1 n2 n3=>g b o (k3 b o e n3) n1 n2⟩
 ·rcases f1 b hf.1 with q | q
  ·exact(h.fd b q).2
  ·exact(af hL q).symm
 ·rcases f1 b hf.1 with q | q
  ·exact h.sf b z q
  ·exact h3.not_none q z
 ·rcases f1 b hf.1 with q | q
  ·exact .inl q
  ·refine .inr ?_
   cases e:H b with
   | none=>rfl
   | some o=>
    by_cases z:s.At b
    ·exact absurd z (h3.not_none q)
    ·rw [k3 b o e z]at q;cases q
theorem wG {D:Ends}{σ:St}{H:Hp}{k:Nat}{v:Int} (hσ:σ[k]?=some (some (.int v))) (h:∀v':Int,(v'=v/\v<=1000000000\/v'=1000000000)->D.nx (σ.set k (some (.int v'))) H) :
  wc (mP (tOp (rI0 λi j=>V.bl (decide (j < i))) (eG k) (tOp (rI vU λi j=>V.int (i ^ j.toNat)) (tC (V.int 10)) (tC (V.int 9))))) (t7 (tOp (rI vU λi j=>V.int (i ^ j.toNat)) (tC (V.int 10)) (tC (V.int 9))) (aK k)) t4 D σ H:=by
 have cp:vU 10 9:=⟨by decide,by decide,by decide⟩
 refine⟨_,hσ,10,9,rfl,rfl,cp,v,_,rfl,rfl,_,rfl,?_⟩
 by_cases hv:(10:Int) ^ (9:Int).toNat < v
 ·rw [decide_eq_true hv]
  refine bT ⟨10,9,rfl,rfl,cp,h _ (.inr (by decide))⟩
 ·rw [decide_eq_false hv]
  refine b9 ?_
  have z:(10:Int) ^ (9:Int).toNat=1000000000:=by decide
  rw [z]at hv
  have:=h v (.inl ⟨rfl,by omega⟩)
  have e:σ.set k (some (.int v))=σ:=by
   obtain⟨hk,e⟩:=List.getElem?_eq_some_iff.mp hσ
   rw [<- e]
   exact List.set_getElem_self hk
  rw [e]at this
  exact this
end L2
namespace Mine
open PySem L2
variable {P:Program}{w:World}{K:W.Frag}{mg:Str->Option Value}{base:Heap}
noncomputable abbrev oJ:Stmt:=top 48
noncomputable abbrev oK:Stmt:=top 50
theorem c5 {H:Hp}{a b:Addr}{o:HO} (h:upd H a o b=none):b≠a/\H b=none:=by
 have n:b≠a:=λz=>by rw [z,ae]at h;cases h
 rw [ag n]at h
 exact⟨n,h⟩
noncomputable def qc:Sp:=λvs H Q _=>∃(kl:Addr) (ks:List Str),vs=[.ref kl]/\H kl=some (.lst (ks.map V.str))/\∀(s:SA) (H':Hp),s.k=kl->aq H H'->(∀b,s.At b->b≠kl->H b=none)->StAt H' s (Bk.new ks)->Q (.ref s.d) H'
noncomputable def qd:Sp:=λvs H Q _=>∃(s:SA) (B:Bk),vs=[.ref s.d]/\StAt H s B/\B.fs.length<=60/\∀D,H D=none->Q (.ref D) (upd H D (.lst ((du B).map λi:Nat=>V.int (i:Int))))
theorem wx:FnScope ["_law_keys_here"] ["_law_keys_here"] (al oJ):=‹2›
theorem uO {f:Addr}{fd:FuncData} (F:Fun K "_law_state" "_law_state" oJ f fd) (N:Free mg):FnOk P w K mg base CX0 1 f fd ["_law_keys_here"] qc:=by
 refine F.ok (k:=0) wx (λvs H Q E h=>?_) (λcdv A outer s H vs Q E hr h=>?_)
 ·obtain⟨kl,ks,rfl,_⟩:=h
  rfl
 ·obtain⟨kl,ks,rfl,hk,q⟩:=h
  have hu:=aS hr
  refine⟨_,(aj (az (wR (h8 bh (pv 0) (h8 bh (be ad) (h8 bh nK (h8 bh (be ad) wL)))) rfl rfl (by decide) (by decide)))),?_⟩
  refine bA ?_
  intro d nd
  refine⟨_,rfl,Nat.zero_le _,λlf nf g ng=>⟨Nat.zero_le _,λle ne=>⟨?_,sD ⟨d,kl,lf,g,le⟩,rfl,(by show 4<=15;decide),?_⟩⟩⟩
  all_goals
   obtain⟨f1,f2⟩:=c5 nf
   obtain⟨g1,g2⟩:=c5 ng
   obtain⟨g3,g4⟩:=c5 g2
   obtain⟨i1,i2⟩:=c5 ne
   obtain⟨i3,i4⟩:=c5 i2
   obtain⟨i5,i6⟩:=c5 i4
  ·rw [ag i5.symm,ag g3.symm,ag f1.symm,ae]
  ·rw [ue]
   have nk:∀{b:Addr},H b=none->kl≠b:=λe z=>by rw [<- z,hk]at e;cases e
   refine q ⟨d,kl,lf,g,le⟩ _ rfl ?_ (λb hb n=>?_) ⟨ae,?_,⟨[],?_,.nil⟩,?_,⟨[],?_,.nil⟩,i3.symm,nk f2,nk i6,g3.symm⟩
   ·intro b o e
    rw [ag (af e nd),ag (af e i6),ag (af e g4),ag (af e f2),ag (af e nd)]
    exact e
   ·rcases hb with rfl | rfl | rfl | rfl | rfl
    ·exact nd
    ·exact absurd rfl n
    ·exact f2
    ·exact g4
    ·exact i6
   ·show upd _ d _ kl=_
    rw [ag (nk nd),ag (nk i6),ag (nk g4),ag (nk f2),ag (nk nd)]
    exact hk
   ·show upd _ d _ lf=_
    rw [ag f1,ag i3.symm,ag g1.symm,ae];rfl
   ·show upd _ d _ g=_
    rw [ag g3,ag i1.symm,ae];rfl
   ·show upd _ d _ le=_
    rw [ag i5,ae];rfl
theorem wz:FnScope ["_law_state_here"] ["_law_state_here"] (al oK):=‹2›
theorem uP {f:Addr}{fd:FuncData} (F:Fun K "_law_standing" "_law_standing" oK f fd) (N:Free mg):FnOk P w K mg base CX0 1 f fd ["_law_state_here"] qd:=by
 refine F.ok (k:=0) wz (λvs H Q E h=>?_) (λcdv A outer s H vs Q E hr h=>?_)
 ·obtain⟨s,B,rfl,_⟩:=h
  rfl
 ·obtain⟨s,B,rfl,h,h60,q⟩:=h
  have hu:=aS hr
  refine⟨_,(aj (az (kQ (cH rfl (cG rfl N.range (aa (aG aV (by rfl) N.len PySem.boot_len (aa (bH hu (pv 0) bh (λ_ _=>rfl)) ad)) ad)) rfl rfl (by show ∀p∈_,iH [‹"_law_state_here"›] p;decide) (by decide) rfl (by show ([‹"_law_number"›, ‹"_law_state_here"›]:List Str).Nodup;decide) (.cons (i:=0) rfl (.inr (.inl rfl)) (by show (some NameKind.cell)≠some NameKind.local;decide) (.inl rfl) rfl .nil) (λC fp s H=>(wI (eX (kR hu (pv 0) (bH hu (pv 1) bh (λ_ _=>rfl)))))) (λC fp s H=>(pv 0)))))),?_⟩
  refine bA (fT ?_)
  obtain⟨ps,e1,r1⟩:=id h.hf
  have lps:ps.length=B.fs.length:=Paired.length r1
  refine⟨_,rfl,s.d,_,rfl,h.d_f,s.f,_,rfl,.inl (SqL.of e1),?_⟩
  rw [List.length_map,lps]
  refine⟨_,rfl,by omega,by omega,?_⟩
  rw [Int.toNat_natCast]
  refine mB (c:=λi=>(valV B.gs (Sum.inl (i:Int))).isNone) ‹1› (λi H2 R hi g hR=>?_) (λi H2 R hi hR=>⟨_,rfl,?_⟩) λD nD=>q D nD
  ·have h2:=StAt.keep h (λb o _ e=>g b o e) (λb xs e=>g b _ e)
   refine⟨_,rfl,_,rfl,s.d,_,rfl,h2.d_g,s.g,_,rfl,cB.k (k:=Sum.inl _) h2.hg,_,rfl,?_⟩
   rw [Int.zero_add,Option.not_isSome]
   exact hR
  ·rw [Int.zero_add]
   exact hR
noncomputable def kI:Sp:=λvs H Q _=>∃(a:Addr) (ks:List Str),vs=[.ref a]/\H a=some (.lst (ks.map V.str))/\1<=ks.length/\ks.length<=8/\ks.Nodup/\(∀k∈ks,iT k gI 8=true/\k.length < sizeLine)/\∀H',aq H H'->Q (.bl true) H'
theorem mO {K:W.Frag}{E:XK}{σ:St}{H:Hp}{Q:VK}{a:Addr}{ks:List Str} (e0:σ[0]?=some (some (.ref a))) (ha:H a=some (.lst (ks.map V.str))) (hk:∀k∈ks,iT k gI 8=true/\k.length < sizeLine) (hl:ks.length<=8)
  (hq:∀(D:Addr) (H':Hp),H D=none->aq H H'->H' D=some (.lst ((List.replicate ks.length true).map V.bl))->Q (.ref D) H') :
  jf (vo K (eG 0)) [] (λ_ H Q=>Q true H) (pV lN [] E (cW (eG 0) gx)) σ H Q:=by
 refine⟨_,e0,a,rfl,⟨_,SqL.of ha⟩,λD nD=>iD (K:=K) (a:=a) (xs:=ks.map V.str) (sub:=[]) (tt:=λ_ H Q=>Q true H) (te:=pV lN [] E (cW (eG 0) gx)) (Q:=Q) (σ:=σ)
  (λi ys H2=>ys=(List.replicate i true).map V.bl/\aq H H2/\H2 D=some (.lst ys)) ⟨rfl,aq.new nD,ae⟩ (λi ys H2 _ hh=>?_) (λi x ys H2 hi hh=>?_) λys H2 hh=>?_⟩
 ·exact SqL.of (hh.2.1 _ _ ha)
 ·obtain⟨rfl,g,hD⟩:=hh
  rw [List.getElem?_map]at hi
  cases ek:ks[i]? with
  | none=>rw [ek]at hi;cases hi
  | some k=>
   rw [ek]at hi
   cases hi
   have hil:=(List.getElem?_eq_some_iff.mp ek).1
   obtain⟨k1,k2⟩:=hk k (List.mem_of_getElem? ek)
   refine bT ⟨_,rfl,k,rfl,k2,λH3 g3=>⟨g3 _ _ hD,?_,?_,?_,?_⟩⟩
   ·rw [List.length_map,List.length_replicate]
    exact bo ‹1›
   ·rw [k1,List.replicate_succ',List.map_append];rfl
   ·intro b o e
    rw [ag (af e nD)]
    exact g3 _ _ (g _ _ e)
   ·exact ae
 ·obtain⟨rfl,g,hD⟩:=hh
  rw [List.length_map]at hD
  exact hq D H2 nD g hD
theorem rB:FnScope ["thing"] ["thing"] (al js):=‹2›
theorem pc {f f1:Addr}{fd:FuncData} (F:Fun K "are_keys" "are_keys" js f fd) (N:Free mg) (C:Con mg){fd1:FuncData} (CN:Cal P w K mg base "is_name" 2 ["thing"] lN f1 fd1):FnOk P w K mg base CX0 3 f fd ["thing"] kI:=by
 obtain⟨t1,c1⟩:=C.keys
 refine F.ok (k:=2) rB (λvs H Q E h=>?_) (λcdv A outer s H vs Q E hr h=>?_)
 ·obtain⟨a,ks,rfl,_⟩:=h
  rfl
 ·obtain⟨a,ks,rfl,ha,k1,k8,nd,hk,hq⟩:=h
  have hu:=aS hr
  refine⟨_,(ah (aW (PW.pt (nB (bV (bL (aG bS (by rfl) N.isinstance PyProof.Rows.Boot.«isinstance» (aa (pv 0) (aa (de (v:=.ty "list") (by rfl) N.list PyProof.Rows.Boot.«list» rfl) ad))))) (oY (bV (uq fi fi ai (aG aV (by rfl) N.len PySem.boot_len (aa (pv 0) ad)) (dc (v:=.int 8) (by rfl) c1 ⟨_,rfl⟩)))))) (aj (az dA)) aF)
   (aj (az (da (aG (lw rfl) (by rfl) N.all PyProof.Rows.Boot.«all» (aa (kQ (cH rfl (bC (pv 0)) rfl rfl (by show ∀p∈_,iH [] p;decide) (by decide) rfl (by show ([‹"key"›]:List Str).Nodup;decide) .nil (λC fp s H=>dE) (λC fp s H=>(am CN.ok (hr.mono (by decide)) rfl CN.nm CN.kp CN.bd .nil ao (aa (pv 0) ad))))) ad)) (eJ (cS dB (aG sH (by rfl) N.len PySem.boot_len (aa (cI (sG rfl) (by rfl) N.set PyProof.Rows.Boot.«set» (aa (pv 0) ad)) ad)) (aG aV (by rfl) N.len PySem.boot_len (aa (pv 0) ad)) (aN _))))))),?_⟩
  have hS:SqL K H a (ks.map V.str):=SqL.of ha
  refine⟨_,rfl,.ref a,"list", _,true,rfl,.lst ha,by rfl,_,rfl,b9 ?_⟩
  refine⟨_,rfl,a,_,rfl,.inl hS,_,_,rfl,rfl,_,rfl,?_⟩
  rw [List.length_map,decide_eq_true (show (1:Int)<=ks.length by omega)]
  refine bT ⟨_,_,rfl,rfl,_,rfl,?_⟩
  rw [decide_eq_true (show (ks.length:Int)<=8 by omega)]
  refine b9 ?_
  refine bi ?_
  dsimp only
  refine bA (gZ (xX (j5 ?_)))
  refine mO rfl ha hk k8 ?_
  intro D H' nD g hD
  refine⟨D,_,rfl,SqL.of hD,_,rfl,?_⟩
  rw [show (List.replicate ks.length true).all id=true from by simp]
  refine bT ?_
  refine⟨_,rfl,a,ks,rfl,SqL.of (g _ _ ha),by omega,λp np=>?_⟩
  refine⟨p,ks,rfl,ae,_,rfl,a,_,rfl,.inl (SqL.of (by rw [ag (af (g _ _ ha) np)];exact g _ _ ha)),rfl,?_⟩
  rw [List.length_map,lm nd _ (Nat.le_refl _),decide_eq_true rfl]
  exact hq _ (g.trans (aq.new np))
noncomputable abbrev yC:Stmt:=ca (top 39) 2
noncomputable abbrev lZ:Stmt:=ca (top 39) 10
noncomputable abbrev lY:Stmt:=ca (top 39) 11
noncomputable abbrev jr:Stmt:=ca (top 39) 12
noncomputable abbrev lU:Stmt:=ca (top 39) 13
noncomputable abbrev lT:Stmt:=ca (top 39) 9
noncomputable abbrev yI:Stmt:=ca (top 39) 1
noncomputable abbrev lX:Stmt:=ca (top 39) 5
noncomputable abbrev oS:Stmt:=ca (top 39) 6
theorem xx {k:Str}{ks:List Str} (h:k∈ks):inV (.str k) (ks.map V.str)=true:=by
 unfold inV
 rw [List.any_map,List.any_eq_true]
 exact⟨k,h,by show eqV (.str k) (.str k)=true;simp [eqV]⟩
theorem sx (ks:List Str):(ks.map V.str).all hX=true:=by
 rw [List.all_map,List.all_eq_true]
 intro x _
 rfl
noncomputable def iM (C:Addr):Sp:=λvs H Q _=>∃(p:Addr) (a:BA) (F:Addr->Prop) (B:Bk),vs=[.ref p]/\BkT C H p a F B/\Q (.int (B.ds.length:Int)) H
noncomputable def gS (C:Addr):Sp:=λvs H Q _=>∃(p:Addr) (a:BA) (F:Addr->Prop) (B:Bk) (k:Str),vs=[.ref p,.str k]/\BkT C H p a F B/\k∈B.ks/\Q .non H
noncomputable def jl (C:Addr):Sp:=λvs H Q _=>∃(p:Addr) (a:BA) (F:Addr->Prop) (B:Bk) (n:Nat),vs=[.ref p,.int (n:Int)]/\BkAt C H p a F B/\n < B.fs.length/\Q .non H
noncomputable def ip (C:Addr):Sp:=λvs H Q _=>∃(p:Addr) (a:BA) (F:Addr->Prop) (B:Bk),vs=[.ref p]/\BkT C H p a F B/\B.ds.length < 60/\Q .non H
noncomputable def lO (C:Addr):Sp:=λvs H Q _=>∃(p:Addr) (a:BA) (F:Addr->Prop) (B:Bk) (v:V) (t:Nat),vs=[.ref p,v]/\BkT C H p a F B/\t<=B.ds.length/\((v=.non/\t=B.ds.length)\/v=.int (t:Int))/\Q (.int (t:Int)) H
noncomputable def tL (C:Addr):Sp:=λvs H Q _=>∃(p:Addr) (a:BA) (F:Addr->Prop) (B:Bk),vs=[.ref p]/\BkAt C H p a F B/\∀l,H l=none->Q (.ref l) (upd H l (.lst (B.ks.map V.str)))
noncomputable def mZ (C:Addr):Sp:=λvs H Q _=>∃(p:Addr) (a:BA) (F:Addr->Prop) (B:Bk) (t:Nat) (d:iG),vs=[.ref p,.int ((t:Int)+1)]/\BkAt C H p a F B/\B.ds[t]?=some d/\∀q,H q=some (.tup (sY d))->Q (.ref q) H
noncomputable def ql (C:Addr):Sp:=λvs H Q _=>∃(p:Addr) (a:BA) (F:Addr->Prop) (B:Bk) (n:Nat) (r:Fnd),vs=[.ref p,.int (n:Int)]/\BkAt C H p a F B/\B.fs[n]?=some r/\∀q H',aq H H'->H' q=some (.tup (lH r++[(valV B.gs (Sum.inl (n:Int))).getD .non]))->Q (.ref q) H'
noncomputable def iX (C:Addr):Sp:=λvs H Q _=>∃(p:Addr) (a:BA) (F:Addr->Prop) (B:Bk) (k:Str) (v:V) (t:Nat),vs=[.ref p,.str k,v]/\BkT C H p a F B/\k∈B.ks/\t<=B.ds.length/\((v=.non/\t=B.ds.length)\/v=.int (t:Int))/\
 ∀(l:Addr) (ps:List Addr) (rs:List aY),H l=none->ci H ps rs->Strip.Tidy rs->cy rs->(∀x,Strip.dayOf rs x=(B.spk k t x).map V.int)->Q (.ref l) (upd H l (.lst (ps.map V.ref)))
theorem Aj:FnScope ["self"] ["self"] (al yC):=‹2›
theorem zd {f C:Addr}{fd:FuncData} (F:Fun K "now" "Book.now" yC f fd) (N:Free mg) (T:BkC K C):FnOk P w K mg base CX0 1 f fd ["self"] (iM C):=by
 refine F.ok (k:=0) Aj (λvs H Q E h=>?_) (λcdv A outer s H vs Q E hr h=>?_)
 ·obtain⟨p,a,F,B,rfl,_⟩:=h
  rfl
 ·obtain⟨p,a,F,B,rfl,h,q⟩:=h
  have hu:=aS hr
  refine⟨_,(aj (az (aG aV (by rfl) N.len PySem.boot_len (aa (bZ (pv 0) rfl) ad)))),?_⟩
  obtain⟨dx,ho⟩:=h.ob
  obtain⟨ps,e1,r1⟩:=h.hd
  refine⟨_,rfl,p,C,dx,_,_,rfl,ho,T.cl,T.n4,zO a,a.d,_,rfl,.inl (SqL.of e1),?_⟩
  rw [List.length_map,show ps.length=B.ds.length from Paired.length r1]
  exact q
theorem tW:FnScope ["self", "key"] ["self", "key"] (al lZ):=‹2›
theorem kT {f C:Addr}{fd:FuncData} (F:Fun K "check_key" "Book.check_key" lZ f fd) (T:BkC K C):FnOk P w K mg base CX0 1 f fd ["self", "key"] (gS C):=by
 refine F.ok (k:=0) tW (λvs H Q E h=>?_) (λcdv A outer s H vs Q E hr h=>?_)
 ·obtain⟨p,a,F,B,k,rfl,_⟩:=h
  rfl
 ·obtain⟨p,a,F,B,k,rfl,h,hk,q⟩:=h
  have hu:=aS hr
  refine⟨_,(aj (aW (aQ mi (pv 1) (bZ (pv 0) rfl) (by with_unfolding_all rfl)) (aj cA) aF)),?_⟩
  obtain⟨dx,ho⟩:=h.ob
  refine⟨_,rfl,_,rfl,p,C,dx,_,_,rfl,ho,T.cl,T.n1,AQ a,a.n,_,rfl,.inl (SqL.of h.hn),rfl,sx _,_,rfl,?_⟩
  rw [xx hk]
  exact b9 q
theorem tV:FnScope ["self", "number"] ["self", "number"] (al lY):=‹2›
theorem rW {f C f1:Addr}{fd:FuncData} (F:Fun K "check_number" "Book.check_number" lY f fd) (N:Free mg) (T:BkC K C){fd1:FuncData} (CW:Cal P w K mg base "is_whole" 1 ["thing", "low", "high"] cY f1 fd1):FnOk P w K mg base CX0 2 f fd ["self", "number"] (jl C):=by
 refine F.ok (k:=1) tV (λvs H Q E h=>?_) (λcdv A outer s H vs Q E hr h=>?_)
 ·obtain⟨p,a,F,B,n,rfl,_⟩:=h
  rfl
 ·obtain⟨p,a,F,B,n,rfl,h,hn,q⟩:=h
  have hu:=aS hr
  refine⟨_,(aj (aW (bV (bL (am CW.ok (hr.mono (by decide)) rfl CW.nm CW.kp CW.bd .nil ao (aa (pv 1) (aa ai (aa (aE eY (aG aV (by rfl) N.len PySem.boot_len (aa (bZ (pv 0) rfl) ad)) ai) ad)))))) (aj cA) aF)),?_⟩
  obtain⟨dx,ho⟩:=h.ob
  obtain⟨ps,e1,r1⟩:=h.hf
  refine⟨_,rfl,_,rfl,p,C,dx,_,_,rfl,ho,T.cl,T.n2,pM a,a.f,_,rfl,.inl (SqL.of e1),_,_,rfl,rfl,n,0,_,rfl,_,rfl,?_⟩
  rw [List.length_map,show ps.length=B.fs.length from Paired.length r1,decide_eq_true (show (0:Int)<=n by omega),decide_eq_true (show (n:Int)<=(B.fs.length:Int) - 1 by omega)]
  exact b9 q
theorem rA:FnScope ["self"] ["self"] (al jr):=‹2›
theorem pb {f C f1:Addr}{fd:FuncData} (F:Fun K "check_room" "Book.check_room" jr f fd) (N:Con mg) (T:BkC K C){fd1:FuncData} (MN:MC P w K mg base C "now" 1 ["self"] [] [] (iM C) f1 fd1):FnOk P w K mg base CX0 2 f fd ["self"] (ip C):=by
 obtain⟨t1,c1⟩:=N.deeds
 refine F.ok (k:=1) rA (λvs H Q E h=>?_) (λcdv A outer s H vs Q E hr h=>?_)
 ·obtain⟨p,a,F,B,rfl,_⟩:=h
  rfl
 ·obtain⟨p,a,F,B,rfl,h,hr6,q⟩:=h
  have hu:=aS hr
  refine⟨_,(aj (aW (aQ xY (bY (pv 0) MN.cl MN.mt MN.ok (hr.mono (by decide)) MN.bd MN.dv ao) (dc (v:=.int 60) (by rfl) c1 ⟨_,rfl⟩) (aN _)) (aj cA) aF)),?_⟩
  obtain⟨dx,ho⟩:=h.ob
  refine⟨_,rfl,p,dx,_,rfl,ho,bU a ‹0› ‹0› ‹0› ‹0› ‹0›,p,a,F,B,rfl,h,_,_,rfl,rfl,_,rfl,?_⟩
  rw [decide_eq_false (show ¬(60:Int)<=B.ds.length by omega)]
  exact b9 q
theorem qt:FnScope ["self", "turn"] ["self", "turn"] (al lU):=‹2›
theorem nN {f C f1 f2:Addr}{fd:FuncData} (F:Fun K "turn_meant" "Book.turn_meant" lU f fd) (T:BkC K C){fd1:FuncData} (MN:MC P w K mg base C "now" 1 ["self"] [] [] (iM C) f1 fd1){fd2:FuncData} (CW:Cal P w K mg base "is_whole" 1 ["thing", "low", "high"] cY f2 fd2):FnOk P w K mg base CX0 2 f fd ["self", "turn"] (lO C):=by
 refine F.ok (k:=1) qt (λvs H Q E h=>?_) (λcdv A outer s H vs Q E hr h=>?_)
 ·obtain⟨p,a,F,B,v,t,rfl,_⟩:=h
  rfl
 ·obtain⟨p,a,F,B,v,t,rfl,h,ht,hv,q⟩:=h
  have hu:=aS hr
  refine⟨_,(ah (aW (eX (iw (pv 1))) (aj (az (bY (pv 0) MN.cl MN.mt MN.ok (hr.mono (by decide)) MN.bd MN.dv ao))) aF)
   (ah (aW (bV (bL (am CW.ok (hr.mono (by decide)) rfl CW.nm CW.kp CW.bd .nil ao (aa (pv 1) (aa ai (aa (bY (pv 0) MN.cl MN.mt MN.ok (hr.mono (by decide)) MN.bd MN.dv ao) ad)))))) (aj cA) aF)
   (aj (az (pv 1))))),?_⟩
  obtain⟨dx,ho⟩:=h.ob
  rcases hv with⟨rfl,rfl⟩ | rfl
  ·exact⟨_,rfl,_,rfl,bT ⟨_,rfl,p,dx,_,rfl,ho,bU a ‹0› ‹0› ‹0› ‹0› ‹0›,p,a,F,B,rfl,h,q⟩⟩
  ·refine⟨_,rfl,_,rfl,b9 ⟨_,rfl,_,rfl,p,dx,_,rfl,ho,bU a ‹0› ‹0› ‹0› ‹0› ‹0›,p,a,F,B,rfl,h,t,0,_,rfl,_,rfl,?_⟩⟩
   rw [decide_eq_true (show (0:Int)<=t by omega),decide_eq_true (show (t:Int)<=B.ds.length by omega)]
   exact b9 ⟨_,rfl,q⟩
theorem Al:FnScope ["self"] ["self"] (al yI):=‹2›
theorem zi {f C:Addr}{fd:FuncData} (F:Fun K "all_keys" "Book.all_keys" yI f fd) (N:Free mg) (T:BkC K C):FnOk P w K mg base CX0 1 f fd ["self"] (tL C):=by
 refine F.ok (k:=0) Al (λvs H Q E h=>?_) (λcdv A outer s H vs Q E hr h=>?_)
 ·obtain⟨p,a,F,B,rfl,_⟩:=h
  rfl
 ·obtain⟨p,a,F,B,rfl,h,q⟩:=h
  have hu:=aS hr
  refine⟨_,(aj (az (cI cU (by rfl) N.list PyProof.Rows.Boot.«list» (aa (bZ (pv 0) rfl) ad)))),?_⟩
  obtain⟨dx,ho⟩:=h.ob
  exact⟨_,rfl,p,C,dx,_,_,rfl,ho,T.cl,T.n1,AQ a,a.n,_,rfl,.inl (SqL.of h.hn),λl nl=>q l nl⟩
theorem tU:FnScope ["self", "turn"] ["self", "turn"] (al lX):=‹2›
theorem rV {f C f1 f2:Addr}{fd:FuncData} (F:Fun K "deed_at" "Book.deed_at" lX f fd) (T:BkC K C){fd1:FuncData} (MN:MC P w K mg base C "now" 1 ["self"] [] [] (iM C) f1 fd1){fd2:FuncData} (CW:Cal P w K mg base "is_whole" 1 ["thing", "low", "high"] cY f2 fd2):FnOk P w K mg base CX0 2 f fd ["self", "turn"] (mZ C):=by
 refine F.ok (k:=1) tU (λvs H Q E h=>?_) (λcdv A outer s H vs Q E hr h=>?_)
 ·obtain⟨p,a,F,B,t,d,rfl,_⟩:=h
  rfl
 ·obtain⟨p,a,F,B,t,d,rfl,h,hd,q⟩:=h
  have hu:=aS hr
  refine⟨_,(ah (aW (bV (bL (am CW.ok (hr.mono (by decide)) rfl CW.nm CW.kp CW.bd .nil ao (aa (pv 1) (aa ai (aa (bY (pv 0) MN.cl MN.mt MN.ok (hr.mono (by decide)) MN.bd MN.dv ao) ad)))))) (aj cA) aF)
   (aj (az (aH aR (bZ (pv 0) rfl) (aE eY (pv 1) ai) (λ_ _=>rfl))))),?_⟩
  obtain⟨dx,ho⟩:=h.ob
  obtain⟨ps,e1,r1⟩:=h.hd
  have ht:=(List.getElem?_eq_some_iff.mp hd).1
  obtain⟨x,ex,e2⟩:=vS r1 hd
  refine⟨_,rfl,_,rfl,p,dx,_,rfl,ho,bU a ‹0› ‹0› ‹0› ‹0› ‹0›,p,a,F,B,rfl,h.toT,(t:Int)+1,1,_,rfl,_,rfl,?_⟩
  rw [decide_eq_true (show (1:Int)<=(t:Int)+1 by omega),decide_eq_true (show (t:Int)+1<=B.ds.length by omega)]
  refine b9 ⟨_,rfl,p,C,dx,_,_,rfl,ho,T.cl,T.n4,zO a,_,rfl,_,_,rfl,rfl,a.d,_,_,V.ref x,rfl,rfl,SqL.of e1,?_,q x e2⟩
  rw [show (t:Int)+1 - 1=(t:Int) by omega]
  exact cD (by rw [List.getElem?_map,ex];rfl)
theorem wD:FnScope ["self", "number"] ["self", "number"] (al oS):=‹2›
theorem uW {f C f1:Addr}{fd:FuncData} (F:Fun K "found" "Book.found" oS f fd) (T:BkC K C){fd1:FuncData} (MK:MC P w K mg base C "check_number" 2 ["self", "number"] [] [] (jl C) f1 fd1):FnOk P w K mg base CX0 3 f fd ["self", "number"] (ql C):=by
 refine F.ok (k:=2) wD (λvs H Q E h=>?_) (λcdv A outer s H vs Q E hr h=>?_)
 ·obtain⟨p,a,F,B,n,r,rfl,_⟩:=h
  rfl
 ·obtain⟨p,a,F,B,n,r,rfl,h,hr1,q⟩:=h
  have hu:=aS hr
  refine⟨_,(ah (aM (bQ (pv 0) MK.cl MK.mt MK.ok (hr.mono (by decide)) MK.bd MK.dv ao (aa (pv 1) ad)))
   (aj (az (aE qA (aH aR (bZ (pv 0) rfl) (pv 1) (λ_ _=>rfl)) (bz (aa (uy hu (bZ (pv 0) rfl) (pv 1) ⟨rfl,rfl,rfl,rfl⟩) ad)))))),?_⟩
  obtain⟨dx,ho⟩:=h.ob
  obtain⟨ps,e1,r1⟩:=h.hf
  have hn:=(List.getElem?_eq_some_iff.mp hr1).1
  obtain⟨x,ex,e2⟩:=jc r1 hr1
  refine⟨_,rfl,p,dx,_,rfl,ho,bU a ‹0› ‹0› ‹0› ‹0› ‹0›,_,rfl,p,a,F,B,n,rfl,h,hn,?_⟩
  refine⟨_,rfl,p,C,dx,_,_,rfl,ho,T.cl,T.n2,pM a,_,rfl,a.f,_,_,V.ref x,rfl,rfl,SqL.of e1,cD (by rw [List.getElem?_map,ex];rfl),?_⟩
  refine⟨_,rfl,p,C,dx,_,_,rfl,ho,T.cl,T.n3,xI a,a.w,rfl,.inl ⟨_,.inl h.hw⟩,_,rfl,_,cB.k (k:=Sum.inl (n:Int)) h.hw,by show 1<=sizeLine;decide,λy ny=>?_⟩
  refine⟨x,y,_,_,rfl,rfl,SqT.of (by rw [ag (af e2 ny)];exact e2),SqT.of ae,(by intro z;cases z),by show 6<=sizeLine;decide,(λz=>by cases z),λ_ z nz=>?_⟩
  exact q z _ ((aq.new ny).trans (aq.new nz)) ae
theorem qr:FnScope ["self", "key", "turn"] ["self", "key", "turn"] (al lT):=‹2›
theorem jC {f C f1 f2:Addr}{fd:FuncData}{dV:Value} (F:FunD K "table" "Book.table" lT dV f fd) (N:Free mg) (T:BkC K C){fd1:FuncData} (MY:MC P w K mg base C "check_key" 1 ["self", "key"] [] [] (gS C) f1 fd1){fd2:FuncData} (MT:MC P w K mg base C "turn_meant" 2 ["self", "turn"] [] [] (lO C) f2 fd2):FnOk P w K mg base CX0 3 f fd ["self", "key", "turn"] (iX C):=by
 refine F.ok (k:=2) qr (λvs H Q E h=>?_) (λcdv A outer s H vs Q E hr h=>?_)
 ·obtain⟨p,a,F,B,k,v,t,rfl,_⟩:=h
  rfl
 ·obtain⟨p,a,F,B,k,v,t,rfl,h,hk,ht,hv,q⟩:=h
  have hu:=aS hr
  refine⟨_,(ah (aM (bQ (pv 0) MY.cl MY.mt MY.ok (hr.mono (by decide)) MY.bd MY.dv ao (aa (pv 1) ad)))
   (aj (az (cI cU (by rfl) N.list PyProof.Rows.Boot.«list» (aa (bH hu (aH aR (bZ (pv 0) rfl) (bQ (pv 0) MT.cl MT.mt MT.ok (hr.mono (by decide)) MT.bd MT.dv ao (aa (pv 2) ad)) (λ_ _=>rfl)) (pv 1) (λ_ _=>rfl)) ad))))),?_⟩
  obtain⟨dx,ho⟩:=h.ob
  obtain⟨ts,x,kvs,ra,rs,e1,e2,e3,e4,R,lt⟩:=h.tab ht hk
  obtain⟨ps,e5,r5⟩:=R.rl
  refine⟨_,rfl,p,dx,_,rfl,ho,bU a ‹0› ‹0› ‹0› ‹0› ‹0›,_,rfl,p,a,F,B,k,rfl,h,hk,?_⟩
  refine⟨_,rfl,p,C,dx,_,_,rfl,ho,T.cl,T.n5,xJ a,_,rfl,p,dx,_,rfl,ho,bU a ‹0› ‹0› ‹0› ‹0› ‹0›,_,rfl,p,a,F,B,v,t,rfl,h,ht,hv,?_⟩
  refine⟨a.t,_,_,V.ref x,rfl,rfl,SqL.of e1,cD (by rw [List.getElem?_map,e2];rfl),_,rfl,x,V.ref ra,rfl,?_,?_⟩
  ·have:=cB.k (k:=Sum.inr k) e3
   rw [e4]at this
   exact this
  ·exact⟨ra,_,rfl,.inl (SqL.of e5),λl nl=>q l ps rs nl r5 R.td R.i4 R.dy⟩
noncomputable abbrev oO:Stmt:=ca (top 39) 14
noncomputable abbrev tY:Stmt:=ca (top 39) 15
noncomputable abbrev ub:Stmt:=ca (top 39) 3
noncomputable abbrev oF:Stmt:=ca (top 39) 4
theorem jJ {fs:List Fnd}{i:Nat}{f:Fnd} (e:fs[i]?=some f) (c:Nat->Fnd->Bool):c7 fs c (i+1)=if c i f=true then some (i:Int) else c7 fs c i:=by
 show (match fs[i]? with | some f=>if c i f=true then some (i:Int) else c7 fs c i | none=>c7 fs c i)=_
 rw [e]
noncomputable def qh (C T:Addr):Sp:=λvs H Q _=>∃(p:Addr) (a:BA) (k:Str) (fs:List Fnd) (gs:List (Key × V)) (dx:Addr) (ps:List Addr),vs=[.ref p,.str k]/\H p=some (.ins C dx (cX a))/\H a.f=some (.lst (ps.map V.ref))/\mH H ps fs/\H a.w=some (.dK gs)/\
 (∀f∈fs,0<=f.2.1/\f.2.1<=f.2.2.1/\f.2.2.1 < 400)/\Lm T H/\∀(l:Addr) (rs:List aY) (H':Hp),H l=none->Gm T H H'->bu H' l rs->Strip.Tidy rs->cy rs->(∀x,Strip.dayOf rs x=(c7 fs (kj gs k x) fs.length).map V.int)->Q (.ref l) H'
theorem y8 {T:Addr}{H H':Hp} (g:Gm T H H') (L:Lm T H){b:Addr}{o:HO} (e:H b=some o) (n:∀ps,o≠.tbl ps:=by intro _ z;cases z):H' b=some o:=g.at L e n
theorem gU:FnScope ["self", "key", "strip", "number", "finding"] ["self", "key"] (al oO):=‹2›
theorem uS {f C L f1:Addr}{fd:FuncData} (F:Fun K "table_of_known" "Book.table_of_known" oO f fd) (N:Free mg) (T:BkC K C){fd1:FuncData} (CL:Cal P w K mg base "laid" 4 ["strip", "first", "last", "mark"] (lP L) f1 fd1):FnOk P w K mg base CX0 5 f fd ["self", "key"] (qh C L):=by
 refine F.ok (k:=4) gU (λvs H Q E h=>?_) (λcdv A outer s H vs Q E hr h=>?_)
 ·obtain⟨p,a,k,fs,gs,dx,ps,rfl,_⟩:=h
  rfl
 ·obtain⟨p,a,k,fs,gs,dx,ps,rfl,ho,e1,r1,e2,hin,LL,q⟩:=h
  have hu:=aS hr
  refine⟨_,(ah (aB (i:=2) gU.nd rfl (Or.inl rfl) (be ad))
   (ah (bP PassesOwn.never rfl (mf rfl N.enumerate (aa (bZ (pv 0) rfl) ad)) (cR rfl (aA (ay (i:=3) gU.nd rfl (Or.inl rfl)) (aA (ay (i:=4) gU.nd rfl (Or.inl rfl)) cg)))
   (aj (aW (PW.pt (dz (aQ dB (aH bf (pv 4) ai (λ_ _=>rfl)) (pv 1) (aN _)) (dC (eX (kR hu (pv 3) (bZ (pv 0) rfl)))))) (aj (aB (i:=2) gU.nd rfl (Or.inl rfl) (am CL.ok (hr.mono (by decide)) rfl CL.nm CL.kp CL.bd .nil ao (aa (pv 2) (aa (aH bf (pv 4) ai (λ_ _=>rfl)) (aa (aH bf (pv 4) ai (λ_ _=>rfl)) (aa (pv 3) ad))))))) aF)))
   (aj (az (pv 2))))),?_⟩
  have hlp:ps.length=fs.length:=Paired.length r1
  refine⟨Nat.zero_le _,λst nst=>?_⟩
  have g0:Gm L H (upd H st (.lst [])):=Go.new LL nst
  have ho0:=y8 g0 LL ho
  refine⟨_,rfl,p,C,dx,_,_,rfl,ho0,T.cl,T.n2,pM a,a.f,rfl,⟨_,SqL.of (g0.lst LL e1)⟩,nY (K:=K) (a:=a.f) (xs:=ps.map V.ref) (λi σ H2=>∃(l:Addr) (rs:List aY) (v3 v4:Option V),σ=[some (.ref p),some (.str k),some (.ref l),v3,v4]/\H l=none/\Gm L H H2/\bu H2 l rs/\Strip.Tidy rs/\cy rs/\∀x,Strip.dayOf rs x=(c7 fs (kj gs k x) i).map V.int)
   ⟨st,[],none,none,rfl,nst,g0,dL ae,Strip.tidy_nil,(λ_ h=>nomatch h),λx=>rfl⟩ (λi σ H2 _ hh=>?_) ?_ ?_⟩
  ·obtain⟨_,_,_,_,_,_,g,_⟩:=hh
   exact SqL.of (g.lst LL e1)
  ·rintro i y σ H2 t hi ⟨l,rs,v3,v4,rfl,nl,g2,hrs,td,i4,dy⟩ nt
   rw [List.getElem?_map]at hi
   cases ep:ps[i]? with
   | none=>rw [ep]at hi;cases hi
   | some x=>
    rw [ep]at hi
    cases hi
    obtain⟨r,er,ht0⟩:=c9 r1 ep
    have hil:i < fs.length:=(List.getElem?_eq_some_iff.mp er).1
    obtain⟨h0,h1,h2⟩:=hin r (List.mem_of_getElem? er)
    have few:=gW td.up i4
    have g3:Gm L H2 (upd H2 t (.tup [.int (i:Int),.ref x])):=Go.new g2.lam nt
    have g23:=g2.trans g3
    have ht:=g23.tup LL ht0
    have hrs3:=g3.rows g2.lam hrs
    have ho3:=y8 g23 LL ho
    have e23:=g23.dK LL e2
    refine⟨t,_,rfl,SqT.of ae,rfl,_,_,rfl,_,_,rfl,rfl,?_⟩
    have skip:(∀d,kj gs k d i r=false)->∃(l':Addr) (rs:List aY) (v3 v4:Option V),[some (V.ref p),some (.str k),some (.ref l),some (.int (i:Int)),some (.ref x)]=[some (.ref p),some (.str k),some (.ref l'),v3,v4]/\H l'=none/\Gm L H (upd H2 t (.tup [.int (i:Int),.ref x]))/\bu (upd H2 t (.tup [.int (i:Int),.ref x])) l' rs/\Strip.Tidy rs/\cy rs/\∀x,Strip.dayOf rs x=(c7 fs (kj gs k x) (i+1)).map V.int:=λhn=>by
     refine⟨l,rs,_,_,rfl,nl,g23,hrs3,td,i4,λd=>?_⟩
     rw [jJ er,hn d,if_neg (by decide)]
     exact dy d
    refine⟨_,rfl,x,_,0,V.str r.1,rfl,rfl,SqT.of ht,rfl,_,rfl,rfl,_,rfl,fM (λhk=>?_) (λhk=>b9 (skip λd=>?_))⟩
    ·have hk:r.1=k:=by
      have:=of_decide_eq_true hk
      injection this
     refine⟨_,rfl,_,rfl,p,C,dx,_,_,rfl,ho3,T.cl,T.n3,xI a,a.w,_,rfl,cB.k (k:=Sum.inl (i:Int)) e23,_,rfl,?_⟩
     cases eg:valV gs (Sum.inl (i:Int)) with
     | some v=>
      refine b9 (skip λd=>?_)
      unfold kj
      rw [eg,show (some v:Option V).isNone=false from rfl,Bool.false_and,Bool.and_false]
     | none=>
      refine bT ⟨_,rfl,_,rfl,x,_,1,V.int r.2.1,rfl,rfl,SqT.of ht,rfl,_,rfl,x,_,2,V.int r.2.2.1,rfl,rfl,SqT.of ht,rfl,_,rfl,?_⟩
      refine⟨l,r.2.1,r.2.2.1,(i:Int),rs,rfl,g23.lam,hrs3,td.up.disj,i4,few,h0,h1,h2,λc acc H4 nc g4 hacc td4 dy4 i44 _=>?_⟩
      refine⟨c,acc,_,_,rfl,Gm.free g23 nc,g23.trans g4,hacc,td4,i44,λd=>?_⟩
      rw [dy4,jJ er]
      unfold Strip.laidG kj
      rw [eg,decide_eq_true hk,show (none:Option V).isNone=true from rfl,Bool.true_and,Bool.true_and]
      by_cases hd:r.2.1<=d/\d<=r.2.2.1
      ·rw [if_pos hd,decide_eq_true hd.1,decide_eq_true hd.2]
       rfl
      ·rw [if_neg hd,if_neg (by rw [<- Bool.decide_and,decide_eq_false hd];decide)]
       exact dy d
    ·have hk:¬r.1=k:=λz=>hk (decide_eq_true (by rw [z]))
     unfold kj
     rw [decide_eq_false hk,Bool.false_and]
  ·rintro σ H2 ⟨l,rs,v3,v4,rfl,nl,g2,hrs,td,i4,dy⟩
   rw [List.length_map,hlp]at dy
   exact⟨_,rfl,q l rs H2 nl g2 hrs td i4 dy⟩
structure Half (C:Addr) (H:Hp) (p:Addr) (a:BA) (F:Addr->Prop) (B B':Bk) (n:Nat) (r:Fnd) (word:Str):Prop where
 t:BkT C H p a F B
 hf:∃ps,H a.f=some (.lst (ps.map V.ref))/\mH H ps B'.fs
 hw:H a.w=some (.dK B'.gs)
 fa:F a.n/\F a.f/\F a.w/\F a.d/\F a.t
 nn:¬a.M a.n
 fd:a.f≠a.d
 ft:a.f≠a.t
 dt:a.d≠a.t
 ks:B'.ks=B.ks
 ds:B'.ds=B.ds++[(word,(n:Int))]
 ok:B'.Ok
 hr:B'.fs[n]?=some r
 old:∀k (t:Int) d,t<=B.ds.length->B'.spk k t d=B.spk k t d
 oth:∀k d,k≠r.1->B'.spk k ((B.ds.length:Int)+1) d=B.spk k B.ds.length d
theorem Half.tupM {C:Addr}{H:Hp}{p:Addr}{a:BA}{F:Addr->Prop}{B B':Bk}{n:Nat}{r:Fnd}{word:Str} (h:Half C H p a F B B' n r word):∀b xs,H b=some (.tup xs)->¬a.M b:=λb xs e z=>by
 obtain⟨ps,e1,_⟩:=h.hf
 obtain⟨qs,e2,_⟩:=h.t.hd
 obtain⟨ts,e3,_,_⟩:=h.t.ht
 rcases z with z | z | z | z
 ·rw [z,e1]at e;cases e
 ·rw [z,h.hw]at e;cases e
 ·rw [z,e2]at e;cases e
 ·rw [z,e3]at e;cases e
noncomputable def oA (C:Addr):Sp:=λvs H Q _=>∃(p:Addr) (a:BA) (F:Addr->Prop) (B B':Bk) (n:Nat) (r:Fnd) (word:Str) (st:Addr) (rs:List aY),vs=[.ref p,.str word,.int (n:Int),.ref st]/\Half C H p a F B B' n r word/\bu H st rs/\¬a.M st/\Strip.Tidy rs/\cy rs/\
 (∀x,Strip.dayOf rs x=(B'.spk r.1 ((B.ds.length:Int)+1) x).map V.int)/\
 ∀(H':Hp) (F':Addr->Prop),(∀b,F b->F' b)->(∀b,F' b->F b\/b=st\/H b=none)->(∀b o,H b=some o->b≠a.d->b≠a.t->H' b=some o)->BkAt C H' p a F' B'->Q .non H'
theorem tQ:FnScope ["self", "word", "number", "strip", "tables"] ["self", "word", "number", "strip"] (al tY):=‹2›
theorem wY {f C:Addr}{fd:FuncData} (F:Fun K "take_deed" "Book.take_deed" tY f fd) (N:Free mg) (T:BkC K C):FnOk P w K mg base CX0 1 f fd ["self", "word", "number", "strip"] (oA C):=by
 refine F.ok (k:=0) tQ (λvs H Q E h=>?_) (λcdv A outer s H vs Q E hr h=>?_)
 ·obtain⟨p,a,F,B,B',n,r,word,st,rs,rfl,_⟩:=h
  rfl
 ·obtain⟨p,a,F,B,B',n,r,word,st,rs,rfl,h,hrs,stM,td,i4,dy,q⟩:=h
  have hu:=aS hr
  refine⟨_,(ah (aB (i:=4) tQ.nd rfl (Or.inl rfl) (cI mD (by rfl) N.dict PyProof.Rows.Boot.«dict» (aa (aH aR (bZ (pv 0) rfl) (eE cM ai) (λ_ _=>rfl)) ad)))
   (ah (me hu (pv 4) (aH bf (aH aR (bZ (pv 0) rfl) (pv 2) (λ_ _=>rfl)) ai (λ_ _=>rfl)) (pv 3) rfl)
   (ah (aM (cT PySem.F.plainAttrs_list PySem.F.slot_list_append PySem.F.type_list_append b8 (bZ (pv 0) rfl) (aa (pv 4) ad)))
   (aj (aM (cT PySem.F.plainAttrs_list PySem.F.slot_list_append PySem.F.type_list_append b8 (bZ (pv 0) rfl) (aa (bz (aa (pv 1) (aa (pv 2) ad))) ad))))))),?_⟩
  obtain⟨dx,ho⟩:=h.t.ob
  obtain⟨ps,e1,r1⟩:=h.hf
  obtain⟨qs,e2,r2⟩:=h.t.hd
  obtain⟨ts,e3,l3,r3⟩:=h.t.ht
  have z60:=h.ok.dsz
  rw [h.ds,List.length_append]at z60
  have z60:B.ds.length+1<=60:=z60
  obtain⟨t0,x,rfl⟩:∃t0 x,ts=t0++[x]:=by
   rcases List.eq_nil_or_concat ts with e | ⟨t0,x,e⟩
   ·rw [e]at l3;simp at l3
   ·exact⟨t0,x,by rw [e,List.concat_eq_append]⟩
  have l0:t0.length=B.ds.length:=by rw [List.length_append]at l3;simpa using l3
  have hx:(t0++[x])[B.ds.length]?=some x:=by rw [<- l0];simp
  have TX:=r3 _ x hx
  obtain⟨kvs,ex,kl,kk⟩:=TX.ex
  obtain⟨y0,ey,e4⟩:=jc r1 h.hr
  have elm:(t0++[x]).map V.ref=t0.map V.ref++[V.ref x]:=by rw [List.map_append];rfl
  refine⟨_,rfl,p,C,dx,_,_,rfl,ho,T.cl,T.n5,xJ a,_,rfl,a.t,_,-1,V.ref x,rfl,rfl,SqL.of e3,by rw [elm];exact fQ _ _,x,kvs,rfl,ex,λy ny=>?_⟩
  have old:∀{b:Addr}{o o':HO},H b=some o->(upd H y o') b=some o:=λe=>by rw [ag (af e ny)];exact e
  refine⟨_,rfl,_,rfl,_,rfl,p,C,dx,_,_,rfl,old ho,T.cl,T.n2,pM a,_,rfl,a.f,_,_,V.ref y0,rfl,rfl,SqL.of (old e1),cD (by rw [List.getElem?_map,ey];rfl),y0,_,0,V.str r.1,rfl,rfl,SqT.of (old e4),rfl,y,_,rfl,pO.k (k:=Sum.inr r.1) ae (bo ‹1›),?_⟩
  rw [eT]
  refine⟨_,rfl,p,C,dx,_,_,rfl,old ho,T.cl,T.n5,xJ a,.inl ⟨rfl,_,SqL.of (old e3)⟩,_,rfl,a.t,_,_,rfl,rfl,old e3,?_,?_⟩
  ·rw [List.length_map]
   exact bo (by rw [l3];omega)
  have dT:p≠a.t:=aD ho e3 (by intro z;cases z)
  have dD:p≠a.d:=aD ho e2 (by intro z;cases z)
  refine⟨_,rfl,p,C,dx,_,_,rfl,by rw [ag dT];exact old ho,T.cl,T.n4,zO a,.inl ⟨rfl,_,SqL.of (by rw [ag h.dt];exact old e2)⟩,_,rfl,_,rfl,by show 2<=sizeLine;decide,λw nw=>?_⟩
  have nw1:H w=none:=by
   by_cases z:w=a.t
   ·rw [z,ae]at nw;cases nw
   ·rw [ag z]at nw
    by_cases z2:w=y
    ·rw [z2,ae]at nw;cases nw
    ·rw [ag z2]at nw;exact nw
  have wy:w≠y:=λz=>by
   by_cases z':w=a.t
   ·rw [z',ae]at nw;cases nw
   ·rw [ag z',z,ae]at nw;cases nw
  have aw:a.d≠w:=λz=>by rw [<- z,e2]at nw1;cases nw1
  refine⟨a.d,_,_,rfl,rfl,by rw [ag aw,ag h.dt];exact old e2,?_,?_⟩
  ·rw [List.length_map,show qs.length=B.ds.length from Paired.length r2]
   exact bo ‹1›
  have st5:∀b o,H b=some o->b≠a.d->b≠a.t->upd (upd (upd (upd H y (.dK (cF kvs (Sum.inr r.1) (.ref st)))) a.t (.lst ((t0++[x]).map V.ref++[V.ref y]))) w (.tup [.str word,.int (n:Int)])) a.d (.lst (qs.map V.ref++[V.ref w])) b=some o:=λb o e n1 n2=>by
   rw [ag n1,ag (af e nw1),ag n2]
   exact old e
  have M5:KeepM H _ a:=⟨λb o nb e=>st5 b o e (λz=>nb (.inr (.inr (.inl z)))) λz=>nb (.inr (.inr (.inr z)))⟩
  have tup5:=M5.tup h.tupM
  have yM:¬a.M y:=λz=>by
   rcases z with z | z | z | z
   ·rw [z,e1]at ny;cases ny
   ·rw [z,h.hw]at ny;cases ny
   ·rw [z,e2]at ny;cases ny
   ·rw [z,e3]at ny;cases ny
  have yd:y≠a.d:=λz=>yM (.inr (.inr (.inl z)))
  have yt:y≠a.t:=λz=>yM (.inr (.inr (.inr z)))
  obtain⟨f1,f2,f3,f4,f5⟩:=h.fa
  have wd:a.w≠a.d:=aD h.hw e2 (by intro z;cases z)
  have wt:a.w≠a.t:=aD h.hw e3 (by intro z;cases z)
  refine q _ (λb=>F b\/b=st\/b=y) (λb z=>.inl z) (λb z=>?_) st5 ⟨⟨dx,st5 _ _ ho dD dT⟩,by rw [h.ks];exact M5.own _ _ h.nn h.t.hn,⟨ps,st5 _ _ e1 h.fd h.ft,Paired.mapP r1 λ_ _ e=>tup5 _ _ e⟩,st5 _ _ h.hw wd wt,⟨qs++[w],?_,?_⟩,⟨t0++[x]++[y],?_,?_,λi z hz=>?_⟩,⟨.inl f1,.inl f2,.inl f3,.inl f4,.inl f5⟩,h.nn,h.fd,h.ft,h.dt,h.ok⟩
  ·rcases z with z | z | z
   ·exact .inl z
   ·exact .inr (.inl z)
   ·exact .inr (.inr (by rw [z];exact ny))
  ·rw [ae,List.map_append];rfl
  ·rw [h.ds]
   have hw5:upd (upd (upd (upd H y (.dK (cF kvs (Sum.inr r.1) (.ref st)))) a.t (.lst ((t0++[x]).map V.ref++[V.ref y]))) w (.tup [.str word,.int (n:Int)])) a.d (.lst (qs.map V.ref++[V.ref w])) w=some (.tup (sY (word,(n:Int)))):=by
    rw [ag (Ne.symm aw),ae];rfl
   exact cr (Paired.mapP r2 λ_ _ e=>tup5 _ _ e) hw5
  ·rw [ag (Ne.symm h.dt),ag (λz=>by rw [<- z,e3]at nw1;cases nw1),ae,List.map_append (l₁:=t0++[x])];rfl
  ·rw [List.length_append,l3,h.ds,List.length_append];rfl
  ·by_cases hi:i < (t0++[x]).length
   ·rw [List.getElem?_append_left hi]at hz
    exact((r3 i z hz).keepM M5 h.tupM).other (λb z=>.inl z) h.ks λk d=>h.old k i d ‹1›
   ·have hi2:i=B.ds.length+1:=by
     have:=(List.getElem?_eq_some_iff.mp hz).1
     rw [List.length_append]at this
     have:i < (t0++[x]).length+1:=this
     omega
    have ez:z=y:=by
     rw [List.getElem?_append_right ‹1›,hi2,l3,Nat.sub_self]at hz
     exact(Option.some.inj hz).symm
    subst ez hi2
    refine⟨.inr (.inr rfl),yM,cF kvs (Sum.inr r.1) (.ref st),?_,?_,λk hk=>?_⟩
    ·rw [ag yd,ag (Ne.symm wy),ag yt,ae]
    ·have:=dq kvs (Sum.inr r.1) (V.ref st);omega
    ·rw [h.ks]at hk
     by_cases ek:k=r.1
     ·subst ek
      refine⟨st,rs,by rw [fo,if_pos rfl],.inr (.inl rfl),stM,cZ hrs (λxs e=>M5.own _ _ stM e) tup5,td,i4,dy⟩
     ·obtain⟨ra,rs',e5,R⟩:=kk k hk
      have R5:=R.keepM M5 h.tupM
      refine⟨ra,rs',by rw [fo,if_neg (λz=>ek (Sum.inr.inj z))];exact e5,.inl R5.fp,R5.nm,R5.rl,R5.td,R5.i4,λd=>?_⟩
      have:=h.oth k d ek
      rw [R5.dy]
      exact congrArg (Option.map V.int) this.symm
theorem qO {C:Addr}{H:Hp}{p:Addr}{a:BA}{F:Addr->Prop}{B:Bk} (h:BkAt C H p a F B):∀b xs,H b=some (.tup xs)->¬a.M b:=λb xs e z=>by
 obtain⟨ps,e1,_⟩:=h.hf
 obtain⟨qs,e2,_⟩:=h.hd
 obtain⟨ts,e3,_,_⟩:=h.ht
 rcases z with z | z | z | z
 ·rw [z,e1]at e;cases e
 ·rw [z,h.hw]at e;cases e
 ·rw [z,e2]at e;cases e
 ·rw [z,e3]at e;cases e
theorem xH {C:Addr}{H:Hp}{p:Addr}{a:BA}{F:Addr->Prop}{B:Bk} (h:BkAt C H p a F B):∀b c dx fs,H b=some (.ins c dx fs)->¬a.M b:=λb c dx fs e z=>by
 obtain⟨ps,e1,_⟩:=h.hf
 obtain⟨qs,e2,_⟩:=h.hd
 obtain⟨ts,e3,_,_⟩:=h.ht
 rcases z with z | z | z | z
 ·rw [z,e1]at e;cases e
 ·rw [z,h.hw]at e;cases e
 ·rw [z,e2]at e;cases e
 ·rw [z,e3]at e;cases e
theorem pK {C:Addr}{H:Hp}{p:Addr}{a:BA}{F:Addr->Prop}{B:Bk} (h:BkAt C H p a F B){b:Addr} (e:H b=none):¬a.M b:=λz=>by
 obtain⟨ps,e1,_⟩:=h.hf
 obtain⟨qs,e2,_⟩:=h.hd
 obtain⟨ts,e3,_,_⟩:=h.ht
 rcases z with z | z | z | z
 ·rw [z,e1]at e;cases e
 ·rw [z,h.hw]at e;cases e
 ·rw [z,e2]at e;cases e
 ·rw [z,e3]at e;cases e
theorem vO {C:Addr}{H H':Hp}{p:Addr}{a:BA}{F:Addr->Prop}{B:Bk} (h:BkAt C H p a F B) (g:KeepM H H' a) (ed:∀xs,H a.d=some (.lst xs)->H' a.d=some (.lst xs)) (et:∀xs,H a.t=some (.lst xs)->H' a.t=some (.lst xs)):BkT C H' p a F B:=by
 obtain⟨dx,e0⟩:=h.ob
 obtain⟨qs,e2,r2⟩:=h.hd
 obtain⟨ts,e3,l3,r3⟩:=h.ht
 exact⟨⟨dx,g.own _ _ (xH h _ _ _ _ e0) e0⟩,g.own _ _ h.nn h.hn,⟨qs,ed _ e2,Paired.mapP r2 λ_ _ e=>g.tup (qO h) _ _ e⟩,⟨ts,et _ e3,l3,λi x e=>(r3 i x e).keepM g (qO h)⟩⟩
theorem bE {T:Addr}{H H':Hp} (L:Lm T H) (k:∀b o,H b=some o->(∀xs,o≠.lst xs)->(∀xs,o≠.dK xs)->H' b=some o):Lm T H':=by
 rcases L with e | ⟨c,e1,e2⟩
 ·exact .inl (k _ _ e (by intro _ z;cases z) (by intro _ z;cases z))
 ·exact .inr ⟨c,k _ _ e1 (by intro _ z;cases z) (by intro _ z;cases z),k _ _ e2 (by intro _ z;cases z) (by intro _ z;cases z)⟩
noncomputable def pX (C L:Addr):Sp:=λvs H Q _=>∃(p:Addr) (a:BA) (F:Addr->Prop) (B:Bk) (n:Nat) (r:Fnd),vs=[.ref p,.int (n:Int)]/\Lm L H/\BkAt C H p a F B/\B.fs[n]?=some r/\valV B.gs (Sum.inl (n:Int))=none/\B.ds.length < 60/\
 ∀(H':Hp) (F':Addr->Prop),Lm L H'->(∀b,F b->F' b)->(∀b,F' b->F b\/H b=none)->(∀b o,H b=some o->b≠L->¬a.M b->H' b=some o)->BkAt C H' p a F' (B.withd n)->Q .non H'
theorem wq:FnScope ["self", "number"] ["self", "number"] (al oF):=‹2›
theorem uI {f C L f1 f2 f3 f4 f5:Addr}{fd:FuncData} (F:Fun K "withdraw" "Book.withdraw" oF f fd) (T:BkC K C){fd1:FuncData} (MK:MC P w K mg base C "check_number" 2 ["self", "number"] [] [] (jl C) f1 fd1){fd2:FuncData} (MR:MC P w K mg base C "check_room" 2 ["self"] [] [] (ip C) f2 fd2){fd3:FuncData} (MN:MC P w K mg base C "now" 1 ["self"] [] [] (iM C) f3 fd3){fd4:FuncData} (MD:MC P w K mg base C "take_deed" 1 ["self", "word", "number", "strip"] [] [] (oA C) f4 fd4){fd5:FuncData} (MW:MC P w K mg base C "table_of_known" 5 ["self", "key"] [] [] (qh C L) f5 fd5):FnOk P w K mg base CX0 6 f fd ["self", "number"] (pX C L):=by
 refine F.ok (k:=5) wq (λvs H Q E h=>?_) (λcdv A outer s H vs Q E hr h=>?_)
 ·obtain⟨p,a,F,B,n,r,rfl,_⟩:=h
  rfl
 ·obtain⟨p,a,F,B,n,r,rfl,LL,h,hr1,hg,h60,q⟩:=h
  have hu:=aS hr
  refine⟨_,(ah (aM (bQ (pv 0) MK.cl MK.mt MK.ok (hr.mono (by decide)) MK.bd MK.dv ao (aa (pv 1) ad)))
   (ah (aW (eX (yY hu (pv 1) (bZ (pv 0) rfl))) (aj cA) aF)
   (ah (aM (bY (pv 0) MR.cl MR.mt MR.ok (hr.mono (by decide)) MR.bd MR.dv ao))
   (ah (me hu (bZ (pv 0) rfl) (pv 1) (aE bB (bY (pv 0) MN.cl MN.mt MN.ok (hr.mono (by decide)) MN.bd MN.dv ao) ai) rfl)
   (aj (aM (bQ (pv 0) MD.cl MD.mt MD.ok (hr.mono (by decide)) MD.bd MD.dv ao (aa bh (aa (pv 1) (aa (bQ (pv 0) MW.cl MW.mt MW.ok (hr.mono (by decide)) MW.bd MW.dv ao (aa (aH bf (aH aR (bZ (pv 0) rfl) (pv 1) (λ_ _=>rfl)) ai (λ_ _=>rfl)) ad)) ad)))))))))),?_⟩
  obtain⟨dx,ho⟩:=h.ob
  obtain⟨ps,e1,r1⟩:=h.hf
  obtain⟨qs,e2,r2⟩:=h.hd
  obtain⟨ts,e3,l3,r3⟩:=h.ht
  obtain⟨y0,ey,e4⟩:=jc r1 hr1
  have hn:=(List.getElem?_eq_some_iff.mp hr1).1
  have gsz:=h.ok.gsz
  refine⟨_,rfl,p,dx,_,rfl,ho,bU a ‹0› ‹0› ‹0› ‹0› ‹0›,_,rfl,p,a,F,B,n,rfl,h,hn,?_⟩
  refine⟨_,rfl,_,rfl,p,C,dx,_,_,rfl,ho,T.cl,T.n3,xI a,a.w,_,rfl,cB.k (k:=Sum.inl (n:Int)) h.hw,_,rfl,?_⟩
  rw [hg]
  refine b9 ⟨_,rfl,p,dx,_,rfl,ho,bU a ‹0› ‹0› ‹0› ‹0› ‹0›,p,a,F,B,rfl,h.toT,h60,?_⟩
  refine⟨_,rfl,p,dx,_,rfl,ho,bU a ‹0› ‹0› ‹0› ‹0› ‹0›,p,a,F,B,rfl,h.toT,_,_,rfl,rfl,_,rfl,p,C,dx,_,_,rfl,ho,T.cl,T.n3,xI a,_,rfl,a.w,_,rfl,pO.k (k:=Sum.inl (n:Int)) h.hw (bo ‹1›),?_⟩
  have ste1:∀b o,H b=some o->b≠a.w->upd H a.w (.dK (cF B.gs (Sum.inl (n:Int)) (.int ((B.ds.length:Int)+1)))) b=some o:=λb o e n1=>by
   rw [ag n1];exact e
  have wp:p≠a.w:=aD ho h.hw (by intro z;cases z)
  have wf:a.f≠a.w:=aD e1 h.hw (by intro z;cases z)
  have wd:a.d≠a.w:=aD e2 h.hw (by intro z;cases z)
  have wt:a.t≠a.w:=aD e3 h.hw (by intro z;cases z)
  have L1:Lm L (upd H a.w (.dK (cF B.gs (Sum.inl (n:Int)) (.int ((B.ds.length:Int)+1))))):=bE LL λb o e _ n1=>ste1 b o e λz=>by rw [z,h.hw]at e;exact n1 _ (Option.some.inj e).symm
  have tup1:∀b xs,H b=some (.tup xs)->upd H a.w (.dK (cF B.gs (Sum.inl (n:Int)) (.int ((B.ds.length:Int)+1)))) b=some (.tup xs):=λb xs e=>ste1 _ _ e (aD e h.hw (by intro z;cases z))
  refine⟨_,rfl,p,dx,_,rfl,ste1 _ _ ho wp,bU a ‹0› ‹0› ‹0› ‹0› ‹0›,_,rfl,_,rfl,p,dx,_,rfl,ste1 _ _ ho wp,bU a ‹0› ‹0› ‹0› ‹0› ‹0›,_,rfl,p,C,dx,_,_,rfl,ste1 _ _ ho wp,T.cl,T.n2,pM a,_,rfl,a.f,_,_,V.ref y0,rfl,rfl,SqL.of (ste1 _ _ e1 wf),cD (by rw [List.getElem?_map,ey];rfl),y0,_,0,V.str r.1,rfl,rfl,SqT.of (tup1 _ _ e4),rfl,?_⟩
  refine⟨p,a,r.1,B.fs,cF B.gs (Sum.inl (n:Int)) (.int ((B.ds.length:Int)+1)),dx,ps,rfl,ste1 _ _ ho wp,ste1 _ _ e1 wf,Paired.mapP r1 λ_ _ e=>tup1 _ _ e,ae,λx hx=>?_,L1,λst rs H3 nst g3 hrs td i4 dy=>?_⟩
  ·obtain⟨_,a1,a2,a3,_⟩:=h.ok.fin x hx
   exact⟨a1,a2,a3⟩
  have keep3:∀b o,H b=some o->b≠L->b≠a.w->H3 b=some o:=λb o e n1 n2=>g3.same b o n1 (ste1 b o e n2)
  have free1:∀b,H3 b=none->H b=none:=λb e=>by
   have e1':=Gm.free g3 e
   by_cases z:b=a.w
   ·rw [z,ae]at e1';cases e1'
   ·rw [ag z]at e1';exact e1'
  have nst1:H st=none:=by
   by_cases z:st=a.w
   ·rw [z,ae]at nst;cases nst
   ·rw [ag z]at nst;exact nst
  have noL:∀{b:Addr}{o:HO},H b=some o->(∀ps,o≠.tbl ps)->b≠L:=λe n z=>by
   obtain⟨us,eu⟩:=LL.tbl
   rw [z,eu]at e
   exact n us (Option.some.inj e).symm
  have tup3:∀b xs,H b=some (.tup xs)->H3 b=some (.tup xs):=λb xs e=>g3.tup L1 (tup1 b xs e)
  have O':=h.ok.withd hn h60
  have el:((B.withd n).ds.length:Int)=(B.ds.length:Int)+1:=by simp [Bk.withd]
  have T3:BkT C H3 p a F B:=by
   refine⟨⟨dx,keep3 _ _ ho (noL ho (by intro _ z;cases z)) wp⟩,keep3 _ _ h.hn (noL h.hn (by intro _ z;cases z)) (λz=>h.nn (.inr (.inl z))),⟨qs,keep3 _ _ e2 (noL e2 (by intro _ z;cases z)) wd,Paired.mapP r2 λ_ _ e=>tup3 _ _ e⟩,⟨ts,keep3 _ _ e3 (noL e3 (by intro _ z;cases z)) wt,l3,λi x e=>?_⟩⟩
   obtain⟨kvs,ex,kl,kk⟩:=(r3 i x e).ex
   refine⟨(r3 i x e).fp,(r3 i x e).nm,kvs,keep3 _ _ ex (noL ex (by intro _ z;cases z)) (λz=>(r3 i x e).nm (.inr (.inl z))),kl,λk' hk'=>?_⟩
   obtain⟨ra,rs',e5,R⟩:=kk k' hk'
   exact⟨ra,rs',e5,R.fp,R.nm,cZ R.rl (λxs e=>keep3 _ _ e (noL e (by intro _ z;cases z)) λz=>R.nm (.inr (.inl z))) tup3,R.td,R.i4,R.dy⟩
  have HF:Half C H3 p a F B (B.withd n) n r gp:=by
   refine⟨T3,⟨ps,keep3 _ _ e1 (noL e1 (by intro _ z;cases z)) wf,Paired.mapP r1 λ_ _ e=>tup3 _ _ e⟩,g3.dK L1 ae,h.fa,h.nn,h.fd,h.ft,h.dt,rfl,rfl,O',hr1,λk' t d ht=>h.ok.withd_old hg ht k' d,λk' d hk'=>h.ok.withd_other hr1 h60 hk' d⟩
  refine⟨p,a,F,B,B.withd n,n,r,gp,st,rs,rfl,HF,hrs,pK h nst1,td,i4,λd=>?_,λH' F' hF hF2 st5 BK=>?_⟩
  ·have nw:=O'.now r.1 d
   rw [el]at nw
   rw [dy,nw]
   rfl
  ·refine q H' F' (bE g3.lam λb o e n1 n2=>st5 b o e (λz=>?_) λz=>?_) hF (λb z=>?_) (λb o e n1 n2=>st5 b o (keep3 b o e n1 λz=>n2 (.inr (.inl z))) (λz=>n2 (.inr (.inr (.inl z)))) λz=>n2 (.inr (.inr (.inr z)))) BK
   ·obtain⟨_,e4,_⟩:=T3.hd
    rw [z,e4]at e;exact n1 _ (Option.some.inj e).symm
   ·obtain⟨_,e4,_⟩:=T3.ht
    rw [z,e4]at e;exact n1 _ (Option.some.inj e).symm
   ·rcases hF2 b z with z | z | z
    ·exact .inl z
    ·exact .inr (by rw [z];exact nst1)
    ·exact .inr (free1 b z)
noncomputable def tH (C L:Addr):Sp:=λvs H Q _=>∃(p:Addr) (a:BA) (F:Addr->Prop) (B:Bk) (k:Str) (f l v:Int),vs=[.ref p,.str k,.int f,.int l,.int v]/\Lm L H/\BkAt C H p a F B/\k∈B.ks/\0<=f/\f<=l/\l < 400/\-1000000000<=v/\v<=1000000000/\B.ds.length < 60/\
 ∀(H':Hp) (F':Addr->Prop),Lm L H'->(∀b,F b->F' b)->(∀b,F' b->F b\/H b=none)->(∀b o,H b=some o->b≠L->¬a.M b->H' b=some o)->BkAt C H' p a F' (B.find k f l v)->Q (.int (B.fs.length:Int)) H'
theorem tT:FnScope ["self", "key", "first", "last", "value", "number"] ["self", "key", "first", "last", "value"] (al ub):=‹2›
theorem xg {f C L f1 f2 f3 f4 f5 f6 f7 f8:Addr}{fd:FuncData} (F:Fun K "find" "Book.find" ub f fd) (N:Free mg) (Z:Con mg) (T:BkC K C){fd1:FuncData} (MY:MC P w K mg base C "check_key" 1 ["self", "key"] [] [] (gS C) f1 fd1){fd2:FuncData} (CC:Cal P w K mg base "check_stretch" 3 ["first", "last"] qm f2 fd2){fd3:FuncData} (CW:Cal P w K mg base "is_whole" 1 ["thing", "low", "high"] cY f3 fd3){fd4:FuncData} (MR:MC P w K mg base C "check_room" 2 ["self"] [] [] (ip C) f4 fd4){fd5:FuncData} (MN:MC P w K mg base C "now" 1 ["self"] [] [] (iM C) f5 fd5){fd6:FuncData} (MD:MC P w K mg base C "take_deed" 1 ["self", "word", "number", "strip"] [] [] (oA C) f6 fd6){fd7:FuncData} (MB:MC P w K mg base C "table" 3 ["self", "key", "turn"] [Value.none] [V.non] (iX C) f7 fd7){fd8:FuncData} (CL:Cal P w K mg base "laid" 4 ["strip", "first", "last", "mark"] (lP L) f8 fd8):FnOk P w K mg base CX0 5 f fd ["self", "key", "first", "last", "value"] (tH C L):=by
 obtain⟨t1,c1⟩:=Z.value
 refine F.ok (k:=4) tT (λvs H Q E h=>?_) (λcdv A outer s H vs Q E hr h=>?_)
 ·obtain⟨p,a,F,B,k,f,l,v,rfl,_⟩:=h
  rfl
 ·obtain⟨p,a,F,B,k,f,l,v,rfl,LL,h,hk,h0,h1,h2,v0,v1,h60,q⟩:=h
  have hu:=aS hr
  refine⟨_,(ah (aM (bQ (pv 0) MY.cl MY.mt MY.ok (hr.mono (by decide)) MY.bd MY.dv ao (aa (pv 1) ad)))
   (ah (aM (am CC.ok (hr.mono (by decide)) rfl CC.nm CC.kp CC.bd .nil ao (aa (pv 2) (aa (pv 3) ad))))
   (ah (aW (bV (bL (am CW.ok (hr.mono (by decide)) rfl CW.nm CW.kp CW.bd .nil ao (aa (pv 4) (aa (eE cM (dc (v:=.int 1000000000) (by rfl) c1 ⟨_,rfl⟩)) (aa (dc (v:=.int 1000000000) (by rfl) c1 ⟨_,rfl⟩) ad)))))) (aj cA) aF)
   (ah (aM (bY (pv 0) MR.cl MR.mt MR.ok (hr.mono (by decide)) MR.bd MR.dv ao))
   (ah (aB (i:=5) tT.nd rfl (Or.inl rfl) (aG aV (by rfl) N.len PySem.boot_len (aa (bZ (pv 0) rfl) ad)))
   (ah (aM (cT PySem.F.plainAttrs_list PySem.F.slot_list_append PySem.F.type_list_append b8 (bZ (pv 0) rfl) (aa (bz (aa (pv 1) (aa (pv 2) (aa (pv 3) (aa (pv 4) (aa (aE bB (bY (pv 0) MN.cl MN.mt MN.ok (hr.mono (by decide)) MN.bd MN.dv ao) ai) ad)))))) ad)))
   (ah (aM (bQ (pv 0) MD.cl MD.mt MD.ok (hr.mono (by decide)) MD.bd MD.dv ao (aa bh (aa (pv 5) (aa (am CL.ok (hr.mono (by decide)) rfl CL.nm CL.kp CL.bd .nil ao (aa (bQ (pv 0) MB.cl MB.mt MB.ok (hr.mono (by decide)) MB.bd MB.dv ao (aa (pv 1) ad)) (aa (pv 2) (aa (pv 3) (aa (pv 5) ad))))) ad)))))
   (aj (az (pv 5)))))))))),?_⟩
  obtain⟨dx,ho⟩:=h.ob
  obtain⟨ps,e1,r1⟩:=h.hf
  obtain⟨qs,e2,r2⟩:=h.hd
  obtain⟨ts,e3,l3,r3⟩:=h.ht
  have lps:ps.length=B.fs.length:=Paired.length r1
  have fsz:=h.ok.fsz
  refine⟨_,rfl,p,dx,_,rfl,ho,bU a ‹0› ‹0› ‹0› ‹0› ‹0›,_,rfl,p,a,F,B,k,rfl,h.toT,hk,?_⟩
  refine⟨_,rfl,_,rfl,f,l,rfl,h0,h1,h2,?_⟩
  refine⟨_,rfl,_,rfl,v,-1000000000,1000000000,rfl,_,rfl,?_⟩
  rw [decide_eq_true v0,decide_eq_true v1]
  refine b9 ⟨_,rfl,p,dx,_,rfl,ho,bU a ‹0› ‹0› ‹0› ‹0› ‹0›,p,a,F,B,rfl,h.toT,h60,?_⟩
  refine⟨_,rfl,p,C,dx,_,_,rfl,ho,T.cl,T.n2,pM a,a.f,_,rfl,.inl (SqL.of e1),?_⟩
  rw [List.length_map,lps]
  refine⟨_,rfl,p,C,dx,_,_,rfl,ho,T.cl,T.n2,pM a,.inl ⟨rfl,_,SqL.of e1⟩,_,rfl,_,rfl,_,rfl,_,rfl,_,rfl,p,dx,_,rfl,ho,bU a ‹0› ‹0› ‹0› ‹0› ‹0›,p,a,F,B,rfl,h.toT,_,_,rfl,rfl,by show 5<=sizeLine;decide,λy ny=>?_⟩
  refine⟨a.f,_,_,rfl,rfl,by rw [ag (af e1 ny)];exact e1,by rw [List.length_map];exact bo ‹1›,?_⟩
  have yM:=pK h ny
  have ste1:∀b o,H b=some o->b≠a.f->upd (upd H y (.tup (lH (k,f,l,v,(B.ds.length:Int)+1)))) a.f (.lst (ps.map V.ref++[V.ref y])) b=some o:=λb o e n1=>by
   rw [ag n1,ag (af e ny)];exact e
  have M1:KeepM H _ a:=⟨λb o nb e=>ste1 b o e λz=>nb (.inl z)⟩
  have T1:BkT C _ p a F B:=vO h M1 (λxs e=>ste1 _ _ e (Ne.symm h.fd)) λxs e=>ste1 _ _ e (Ne.symm h.ft)
  have pf:p≠a.f:=aD ho e1 (by intro z;cases z)
  have L1:Lm L (upd (upd H y (.tup (lH (k,f,l,v,(B.ds.length:Int)+1)))) a.f (.lst (ps.map V.ref++[V.ref y]))):=bE LL λb o e n1 _=>ste1 b o e λz=>by rw [z,e1]at e;exact n1 _ (Option.some.inj e).symm
  refine⟨_,rfl,p,dx,_,rfl,ste1 _ _ ho pf,bU a ‹0› ‹0› ‹0› ‹0› ‹0›,_,rfl,_,rfl,p,dx,_,rfl,ste1 _ _ ho pf,bU a ‹0› ‹0› ‹0› ‹0› ‹0›,_,rfl,p,a,F,B,k,.non,B.ds.length,rfl,T1,hk,Nat.le_refl _,.inl ⟨rfl,rfl⟩,λls ps2 rs nls rp td i4 dy=>?_⟩
  have g2:Gm L (upd (upd H y (.tup (lH (k,f,l,v,(B.ds.length:Int)+1)))) a.f (.lst (ps.map V.ref++[V.ref y]))) _:=Go.new (o:=.lst (ps2.map V.ref)) L1 nls
  refine⟨_,rfl,_,rfl,_,rfl,ls,f,l,(B.fs.length:Int),rs,rfl,g2.lam,⟨ps2,ae,c8 rp λx xs e=>g2.tup L1 e⟩,td.up.disj,i4,gW td.up i4,h0,h1,h2,λst acc H3 nst g3 hacc td3 dy3 i43 _=>?_⟩
  have g13:=g2.trans g3
  have keep3:∀b o,H b=some o->b≠L->b≠a.f->H3 b=some o:=λb o e n1 n2=>g13.same b o n1 (ste1 b o e n2)
  have free1:∀b,H3 b=none->H b=none:=λb e=>by
   have e1':=Gm.free g13 e
   by_cases z:b=a.f
   ·rw [z,ae]at e1';cases e1'
   ·rw [ag z]at e1'
    by_cases z2:b=y
    ·rw [z2];exact ny
    ·rw [ag z2]at e1';exact e1'
  have nst1:H st=none:=by
   have e1':=Gm.free g2 nst
   by_cases z:st=a.f
   ·rw [z,ae]at e1';cases e1'
   ·rw [ag z]at e1'
    by_cases z2:st=y
    ·rw [z2];exact ny
    ·rw [ag z2]at e1';exact e1'
  have noL:∀{b:Addr}{o:HO},H b=some o->(∀ps,o≠.tbl ps)->b≠L:=λe n z=>by
   obtain⟨us,eu⟩:=LL.tbl
   rw [z,eu]at e
   exact n us (Option.some.inj e).symm
  have tup3:∀b xs,H b=some (.tup xs)->H3 b=some (.tup xs):=λb xs e=>keep3 _ _ e (noL e (by intro _ z;cases z)) (aD e e1 (by intro z;cases z))
  have O':=h.ok.find (v:=v) hk h0 h1 h2 h60
  have T3:BkT C H3 p a F B:=by
   refine⟨⟨dx,keep3 _ _ ho (noL ho (by intro _ z;cases z)) pf⟩,keep3 _ _ h.hn (noL h.hn (by intro _ z;cases z)) (λz=>h.nn (.inl z)),⟨qs,keep3 _ _ e2 (noL e2 (by intro _ z;cases z)) (Ne.symm h.fd),Paired.mapP r2 λ_ _ e=>tup3 _ _ e⟩,⟨ts,keep3 _ _ e3 (noL e3 (by intro _ z;cases z)) (Ne.symm h.ft),l3,λi x e=>?_⟩⟩
   obtain⟨kvs,ex,kl,kk⟩:=(r3 i x e).ex
   refine⟨(r3 i x e).fp,(r3 i x e).nm,kvs,keep3 _ _ ex (noL ex (by intro _ z;cases z)) (λz=>(r3 i x e).nm (.inl z)),kl,λk' hk'=>?_⟩
   obtain⟨ra,rs',e5,R⟩:=kk k' hk'
   exact⟨ra,rs',e5,R.fp,R.nm,cZ R.rl (λxs e=>keep3 _ _ e (noL e (by intro _ z;cases z)) λz=>R.nm (.inl z)) tup3,R.td,R.i4,R.dy⟩
  have f3:H3 a.f=some (.lst (ps.map V.ref++[V.ref y])):=g13.lst L1 ae
  have y3:H3 y=some (.tup (lH (k,f,l,v,(B.ds.length:Int)+1))):=g13.tup L1 (by rw [ag (λz=>yM (.inl z)),ae])
  have HF:Half C H3 p a F B (B.find k f l v) B.fs.length (k,f,l,v,(B.ds.length:Int)+1) iJ:=by
   refine⟨T3,⟨ps++[y],by rw [f3,List.map_append];rfl,cr (Paired.mapP r1 λ_ _ e=>tup3 _ _ e) y3⟩,keep3 _ _ h.hw (noL h.hw (by intro _ z;cases z)) (aD h.hw e1 (by intro z;cases z)),h.fa,h.nn,h.fd,h.ft,h.dt,rfl,rfl,O',?_,λk' t d ht=>h.ok.find_old ht k' d,λk' d hk'=>?_⟩
   ·show (B.fs++[(k,f,l,v,(B.ds.length:Int)+1)])[B.fs.length]?=_
    simp
   ·rw [h.ok.find_now,if_neg (λz=>hk' z.1.symm)]
  refine⟨p,a,F,B,B.find k f l v,B.fs.length,(k,f,l,v,(B.ds.length:Int)+1),iJ,st,acc,rfl,HF,hacc,pK h nst1,td3,i43,λd=>?_,λH' F' hF hF2 st5 BK=>?_⟩
  ·rw [dy3,h.ok.find_now]
   unfold Strip.laidG
   by_cases hd:f<=d/\d<=l
   ·rw [if_pos hd,if_pos ⟨rfl,hd⟩];rfl
   ·rw [if_neg hd,if_neg (λz=>hd z.2)];exact dy d
  ·refine⟨_,rfl,q H' F' (bE g13.lam λb o e n1 n2=>st5 b o e (λz=>?_) λz=>?_) hF (λb z=>?_) (λb o e n1 n2=>st5 b o (keep3 b o e n1 λz=>n2 (.inl z)) (λz=>n2 (.inr (.inr (.inl z)))) λz=>n2 (.inr (.inr (.inr z)))) BK⟩
   ·obtain⟨_,e4,_⟩:=T3.hd
    rw [z,e4]at e;exact n1 _ (Option.some.inj e).symm
   ·obtain⟨_,e4,_⟩:=T3.ht
    rw [z,e4]at e;exact n1 _ (Option.some.inj e).symm
   ·rcases hF2 b z with z | z | z
    ·exact .inl z
    ·exact .inr (by rw [z];exact nst1)
    ·exact .inr (free1 b z)
noncomputable abbrev ud:Stmt:=top 51
theorem c4 {c:TT}{t u:TS}{D:Ends}{σ:St}{H:Hp} (h:c σ H λb H1=>if b=true then t D σ H1 else u D σ H1):wc c t u D σ H:=h
theorem sW {a b i:Int} (h0:0<=i) (h1:i < 2):∃s:Int,(s=a\/s=b)/\atI [V.int a,V.int b] i=some (V.int s):=by
 rcases (show i=0\/i=1 by omega) with rfl | rfl
 ·exact⟨a,.inl rfl,rfl⟩
 ·exact⟨b,.inr rfl,rfl⟩
theorem o5 {H:Hp}:∀xs:List Nat,DatVs H (xs.map λi:Nat=>V.int (i:Int)) (xs.map λi:Nat=>PySem.W.Dat.int (i:Int))
 | []=>.nil
 | x::xs=>.cons (.int _) (o5 xs)
theorem sy {σ:St}{H:Hp}{D:Addr}{c:Int}{xs:List Nat}{R:Bool->Hp->Prop} (h2:σ[2]?=some (some (.int c))) (h4:σ[4]?=some (some (.ref D))) (hD:H D=some (.lst (xs.map λi:Nat=>V.int (i:Int))))
  (h:∀(bb:Bool) (H1:Hp),aq H H1->(bb=true->xs≠[])->R bb H1) :
  Ag (mP (tOp rEq (pV gy [] E0 (cW (eG 2) (cW (tC (V.int 0)) (cW (tC (V.int 4)) gx)))) (tC (V.int 3)))) (mP (tOp (ma true) (eG 4) (t5 gx))) σ H R:=by
 refine⟨_,h2,c,0,4,rfl,by decide,by decide,by decide,λn _ _=>⟨rfl,_,rfl,?_⟩⟩
 cases decide (V.int n=V.int 3) with
 | false=>exact b9 (h _ _ aq.refl λz=>by cases z)
 | true=>
  refine bT ⟨_,h4,Nat.zero_le _,λp np=>?_⟩
  have hD2:upd H p (.lst []) D=some (.lst (xs.map λi:Nat=>V.int (i:Int))):=by rw [ag (af hD np)];exact hD
  refine⟨.list (xs.map λi:Nat=>PySem.W.Dat.int (i:Int)),.list [],.lst hD2 (o5 xs),.lst ae .nil,?_,rfl,decide (xs=[]),?_,_,rfl,h _ _ (aq.new np) λz=>?_⟩
  ·show (xs.map λi:Nat=>PySem.W.Dat.int (i:Int)).all (PySem.W.kqdOk 8)=true
   refine List.all_eq_true.mpr λd hd=>?_
   obtain⟨i,_,rfl⟩:=List.mem_map.mp hd
   rfl
  ·rw [decide_eq_true_iff]
   constructor
   ·intro e;rw [e];rfl
   ·intro e
    have:=PySem.W.Dat.list.inj e
    exact List.map_eq_nil_iff.mp this
  ·intro e
   rw [e]at z
   cases z
noncomputable def tI (C L:Addr):Sp:=λvs H Q _=>∃(p:Addr) (a:BA) (F:Addr->Prop) (s:SA) (B:Bk) (c span:Int),vs=[.ref p,.ref s.d,.int c,.int span]/\Lm L H/\Pair C L H p a F s B/\0 < span/\span<=400/\B.ds.length < 60/\
 ∀(H':Hp) (F':Addr->Prop) (B':Bk),Lm L H'->Pair C L H' p a F' s B'->B'.ds.length=B.ds.length+1->1<=B'.fs.length->(∃(w:Str) (n:Nat) (f:Fnd),B'.ds=B.ds++[(w,(n:Int))]/\B'.fs[n]?=some f)->(∀b,F' b->F b\/H b=none)->(∀b o,H b=some o->b≠L->¬a.M b->¬s.At b->H' b=some o)->Q (.bl true) H'
theorem dP:FnScope ["_law_book", "_law_state_here", "_law_cell_here", "_law_span", "_law_standing_here", "_law_number", "_law_key", "_law_first", "_law_last", "_law_value_here", "_law_told_here"] ["_law_book", "_law_state_here", "_law_cell_here", "_law_span"] (al ud):=‹2›
theorem xi {f f1 f2 f3 f4 f5 f6 C L:Addr}{fd:FuncData} (F:Fun K "_law_done" "_law_done" ud f fd) (N:Free mg){fd1:FuncData} (CD:Cal P w K mg base "_law_draw" 2 ["_law_cell_here", "_law_k", "_law_many"] gy f1 fd1){fd2:FuncData} (CS:Cal P w K mg base "_law_standing" 1 ["_law_state_here"] qd f2 fd2){fd3:FuncData} (CT:Cal P w K mg base "_law_stretch" 3 ["_law_cell_here", "_law_k", "_law_span"] kG f3 fd3){fd4:FuncData} (CW:Cal P w K mg base "_law_whole" 1 ["_law_found"] lK f4 fd4){fd5:FuncData} (MF:MC P w K mg base C "find" 5 ["self", "key", "first", "last", "value"] [] [] (tH C L) f5 fd5){fd6:FuncData} (MW:MC P w K mg base C "withdraw" 6 ["self", "number"] [] [] (pX C L) f6 fd6):FnOk P w K mg base CX0 7 f fd ["_law_book", "_law_state_here", "_law_cell_here", "_law_span"] (tI C L):=by
 refine F.ok (k:=6) dP (λvs H Q E h=>?_) (λcdv A outer s H vs Q E hr h=>?_)
 ·obtain⟨p,a,F,s,B,c,span,rfl,_⟩:=h
  rfl
 ·obtain⟨p,a,F,s,B,c,span,rfl,LL,h,s0,s1,h60,q⟩:=h
  have hu:=aS hr
  refine⟨_,(ah (aB (i:=4) dP.nd rfl (Or.inl rfl) (am CS.ok (hr.mono (by decide)) rfl CS.nm CS.kp CS.bd .nil ao (aa (pv 1) ad)))
   (ah (aW (PW.pt (dz (aQ dB (am CD.ok (hr.mono (by decide)) rfl CD.nm CD.kp CD.bd .nil ao (aa (pv 2) (aa ai (aa ai ad)))) ai (aN _)) (dC (aQ (nM hr.units) (pv 4) (be ad) (aN _))))) (ah (aB (i:=5) dP.nd rfl (Or.inl rfl) (aH aR (pv 4) (am CD.ok (hr.mono (by decide)) rfl CD.nm CD.kp CD.bd .nil ao (aa (pv 2) (aa ai (aa (aG aV (by rfl) N.len PySem.boot_len (aa (pv 4) ad)) ad)))) (λ_ _=>rfl)))
   (ah (aM (cT PySem.F.plainAttrs_list PySem.F.slot_list_append PySem.F.type_list_append b8 (bH hu (pv 1) bh (λ_ _=>rfl)) (aa (bz (aa bh (aa (pv 5) ad))) ad)))
   (ah (me hu (bH hu (pv 1) bh (λ_ _=>rfl)) (pv 5) (aG aV (by rfl) N.len PySem.boot_len (aa (bH hu (pv 1) bh (λ_ _=>rfl)) ad)) rfl)
   (aj (az (yW (iw (bQ (pv 0) MW.cl MW.mt MW.ok (hr.mono (by decide)) MW.bd MW.dv ao (aa (pv 5) ad))))))))) aF)
   (ah (aB (i:=6) dP.nd rfl (Or.inl rfl) (aH aR (bH hu (pv 1) bh (λ_ _=>rfl)) (am CD.ok (hr.mono (by decide)) rfl CD.nm CD.kp CD.bd .nil ao (aa (pv 2) (aa ai (aa (aG aV (by rfl) N.len PySem.boot_len (aa (bH hu (pv 1) bh (λ_ _=>rfl)) ad)) ad)))) (λ_ _=>rfl)))
   (ah (iu (am CT.ok (hr.mono (by decide)) rfl CT.nm CT.kp CT.bd .nil ao (aa (pv 2) (aa ai (aa (pv 3) ad)))) (cR rfl (aA (ay (i:=7) dP.nd rfl (Or.inl rfl)) (aA (ay (i:=8) dP.nd rfl (Or.inl rfl)) cg))))
   (ah (aB (i:=9) dP.nd rfl (Or.inl rfl) (am CD.ok (hr.mono (by decide)) rfl CD.nm CD.kp CD.bd .nil ao (aa (pv 2) (aa ai (aa (aH aR (be (aa ai (aa (aE bB (aE eK ai (aE fL ai ai)) ai) ad))) (am CD.ok (hr.mono (by decide)) rfl CD.nm CD.kp CD.bd .nil ao (aa (pv 2) (aa ai (aa ai ad)))) (λ_ _=>rfl)) ad)))))
   (ah (aB (i:=9) dP.nd rfl (Or.inl rfl) (aH aR (be (aa (pv 9) (aa (aE eY (pv 9) (aE fL ai ai)) ad))) (am CD.ok (hr.mono (by decide)) rfl CD.nm CD.kp CD.bd .nil ao (aa (pv 2) (aa ai (aa ai ad)))) (λ_ _=>rfl)))
   (ah (aW (aQ uH (pv 9) (aE fL ai ai) (aN _)) (aj (aB (i:=9) dP.nd rfl (Or.inl rfl) (aE fL ai ai))) aF)
   (ah (aB (i:=5) dP.nd rfl (Or.inl rfl) (aG aV (by rfl) N.len PySem.boot_len (aa (bH hu (pv 1) bh (λ_ _=>rfl)) ad)))
   (ah (aM (cT PySem.F.plainAttrs_list PySem.F.slot_list_append PySem.F.type_list_append b8 (bH hu (pv 1) bh (λ_ _=>rfl)) (aa (bz (aa bh (aa (pv 5) ad))) ad)))
   (ah (aM (cT PySem.F.plainAttrs_list PySem.F.slot_list_append PySem.F.type_list_append b8 (bH hu (pv 1) bh (λ_ _=>rfl)) (aa (bz (aa (pv 6) (aa (pv 7) (aa (pv 8) (aa (pv 9) (aa (aG aV (by rfl) N.len PySem.boot_len (aa (bH hu (pv 1) bh (λ_ _=>rfl)) ad)) ad)))))) ad)))
   (ah (aB (i:=10) dP.nd rfl (Or.inl rfl) (bQ (pv 0) MF.cl MF.mt MF.ok (hr.mono (by decide)) MF.bd MF.dv ao (aa (pv 6) (aa (pv 7) (aa (pv 8) (aa (pv 9) ad))))))
   (aj (az (da (am CW.ok (hr.mono (by decide)) rfl CW.nm CW.kp CW.bd .nil ao (aa (pv 10) ad)) (eJ (cS dB (pv 10) (pv 5) (aN _))))))))))))))))),?_⟩
  obtain⟨dx,ho⟩:=h.bk.ob
  have fsz:=h.bk.ok.fsz
  have k1:=h.bk.ok.k1
  refine au (aI ?_)
  refine⟨_,rfl,s,B,rfl,h.st,by omega,λD nD=>?_⟩
  dsimp only [aK]
  have g1:aq H (upd H D (.lst ((du B).map λi:Nat=>V.int (i:Int)))):=aq.new nD
  have eD:upd H D (.lst ((du B).map λi:Nat=>V.int (i:Int))) D=some (.lst ((du B).map λi:Nat=>V.int (i:Int))):=ae
  have L1:Lm L (upd H D (.lst ((du B).map λi:Nat=>V.int (i:Int)))):=LL.upd_new nD
  generalize upd H D (.lst ((du B).map λi:Nat=>V.int (i:Int)))=H1 at g1 eD L1
  have P1:=h.grow g1
  refine au (c4 (sy (xs:=du B) rfl rfl eD λbb H2 g2 hb=>?_))
  have P2:=P1.grow g2
  have g12:=g1.trans g2
  have L2':Lm L H2:=bE L1 λb o e _ _=>g2 b o e
  obtain⟨pL,hL2⟩:=L2'.tbl
  have eD2:=g2 _ _ eD
  have ho2:=g12 _ _ ho
  obtain⟨ps,e1,r1⟩:=id P2.st.hf
  obtain⟨qs,e2,r2⟩:=id P2.st.he
  have lps:ps.length=B.fs.length:=Paired.length r1
  have lqs:qs.length=B.ds.length:=Paired.length r2
  dsimp only
  cases bb with
  | true=>
   refine bT (au (aI ?_))
   have hne:(du B).length≠0:=λz=>hb rfl (List.eq_nil_of_length_eq_zero z)
   refine⟨_,rfl,_,rfl,_,rfl,D,_,rfl,.inl (SqL.of eD2),c,1,_,rfl,by decide,by decide,by rw [List.length_map];omega,λi i0 i1=>?_⟩
   rw [List.length_map]at i1
   obtain⟨i,rfl⟩:∃j:Nat,i=(j:Int):=⟨i.toNat,by omega⟩
   have ei:(du B)[i]?=some ((du B)[i]'‹1›):=List.getElem?_eq_getElem ‹1›
   generalize (du B)[i]'‹1›=n at ei
   obtain⟨n1,n2⟩:=oy ei
   refine⟨D,_,(i:Int),V.int (n:Int),rfl,rfl,SqL.of eD2,cD (by rw [List.getElem?_map,ei];rfl),?_⟩
   dsimp only [aK]
   refine au (cQ (qx ?_))
   refine⟨_,rfl,s.d,_,rfl,P2.st.d_e,.inl ⟨rfl,_,SqL.of e2⟩,_,rfl,by show 2<=sizeLine;decide,λy ny=>?_⟩
   have ne2:upd H2 y (.tup [.str gp,.int (n:Int)]) s.e=some (.lst (qs.map V.ref)):=by rw [ag (af e2 ny)];exact e2
   refine⟨s.e,_,_,rfl,rfl,ne2,by rw [List.length_map];exact bo ‹1›,?_⟩
   dsimp only
   generalize E1:upd (upd H2 y (.tup [.str ‹"withdraw"›,.int (n:Int)])) s.e (.lst (qs.map V.ref++[.ref y]))=H3
   generalize E2:upd H3 s.g (.dK (cF B.gs (Sum.inl (n:Int)) (.int ((B.ds.length:Int)+1))))=H4
   obtain⟨S4,K4⟩:=P2.st.withd e2 r2 ny E1.symm E2.symm
   have k3:∀b o,H2 b=some o->b≠s.e->H3 b=some o:=λb o e nb=>by rw [<- E1,ag nb,ag (af e ny)];exact e
   have d3:=k3 _ _ P2.st.dd (aD P2.st.dd e2 (by intro z;cases z))
   have g3:=k3 _ _ P2.st.hg (aD P2.st.hg e2 (by intro z;cases z))
   have e3:H3 s.e=some (.lst (qs.map V.ref++[.ref y])):=by rw [<- E1,ae]
   refine au ?_
   refine⟨_,rfl,s.d,_,rfl,by rw [<- yG s];exact cB.k (k:=Sum.inr _) d3,s.e,_,rfl,.inl (SqL.of e3),_,rfl,s.d,_,rfl,by rw [<- Ao s];exact cB.k (k:=Sum.inr _) d3,_,rfl,s.g,_,rfl,pO.k (k:=Sum.inl _) g3 (bo (by have:=h.bk.ok.gsz;omega)),?_⟩
   rw [show ((qs.map V.ref++[V.ref y]).length:Int)=(B.ds.length:Int)+1 by rw [List.length_append,List.length_map,lqs];rfl,E2]
   dsimp only
   have bk4:=P2.keeps K4
   have L4:Lm L H4:=bE L2' λb o e n1 n2=>K4 b o e λz=>by
    rcases P2.st.kind z with⟨ys,w⟩ | ⟨ys,w⟩
    ·rw [e]at w;exact n1 ys (Option.some.inj w)
    ·rw [e]at w;exact n2 ys (Option.some.inj w)
   obtain⟨pL4,hL4⟩:=L4.tbl
   have ho4:=K4 _ _ ho2 (P2.st.not_ins ho2)
   have hr1:B.fs[n]?=some (B.fs[n]'n1):=List.getElem?_eq_getElem n1
   refine bA ⟨_,rfl,p,dx,_,rfl,ho4,bU a ‹0› ‹0› ‹0› ‹0› ‹0›,_,rfl,p,a,F,B,n,_,rfl,L4,bk4,hr1,n2,h60,λH' F' LH _ f1 gg bk'=>?_⟩
   obtain⟨A1,A2,A3⟩:=P2.after S4 K4 hL4 f1 gg bk'
   refine q H' _ _ LH A1 (by show (B.ds++[_]).length=_;rw [List.length_append];rfl) (by show 1<=B.fs.length;omega) ⟨_,n,_,rfl,hr1⟩ (λb hb=>(A2 b hb).imp_right g12.free) λb o e w1 w2 w3=>A3 b o (g12 b o e) w1 w2 w3
  | false=>
   refine b9 (bi ?_)
   dsimp only
   refine au (aI ?_)
   refine⟨_,rfl,s.d,_,rfl,P2.st.d_k,_,rfl,_,rfl,s.d,_,rfl,P2.st.d_k,s.k,_,rfl,.inl (SqL.of P2.st.hk),c,2,_,rfl,by decide,by decide,by rw [List.length_map];omega,λi i0 i1=>?_⟩
   rw [List.length_map]at i1
   obtain⟨i,rfl⟩:∃j:Nat,i=(j:Int):=⟨i.toNat,by omega⟩
   have ei:B.ks[i]?=some (B.ks[i]'‹1›):=List.getElem?_eq_getElem ‹1›
   generalize B.ks[i]'‹1›=k at ei
   have hkk:=List.mem_of_getElem? ei
   refine⟨s.k,_,(i:Int),V.str k,rfl,rfl,SqL.of P2.st.hk,cD (by rw [List.getElem?_map,ei];rfl),?_⟩
   dsimp only [aK]
   refine au (aI ⟨_,rfl,_,rfl,c,3,span,rfl,by decide,by decide,s0,s1,λt x y H3 g3 et x0 xy y4=>?_⟩)
   refine⟨t,_,rfl,SqT.of et,rfl,_,_,rfl,_,_,rfl,rfl,?_⟩
   dsimp only
   have cp:vU 10 9:=⟨by decide,by decide,by decide⟩
   refine au (aI ⟨_,rfl,10,9,rfl,rfl,cp,2,_,rfl,rfl,.inl (by decide),_,_,rfl,rfl,by show 2<=sizeLine;decide,λl1 nl1=>⟨_,rfl,c,8,2,rfl,by decide,by decide,by decide,λj j0 j1=>?_⟩⟩)
   obtain⟨m,hm,em⟩:=sW (a:=4) (b:=2 * 10 ^ (9:Int).toNat+1) j0 j1
   have hm2:0 < m/\m<=2000000001:=by
    have z:(2 * 10 ^ (9:Int).toNat+1:Int)=2000000001:=by decide
    rw [z]at hm
    omega
   refine⟨l1,_,j,V.int m,rfl,rfl,SqL.of ae,em,c,7,m,rfl,by decide,by decide,hm2.1,λv v0 v1=>?_⟩
   dsimp only [aK]
   have g4:aq H3 (upd H3 l1 (.lst [.int 4,.int (2 * 10 ^ (9:Int).toNat+1)])):=aq.new nl1
   generalize upd H3 l1 (.lst [.int 4,.int (2 * 10 ^ (9:Int).toNat+1)])=H4 at g4
   refine au (aI ⟨_,rfl,_,rfl,10,9,rfl,rfl,cp,_,_,rfl,rfl,by show 2<=sizeLine;decide,λl2 nl2=>⟨_,rfl,c,9,2,rfl,by decide,by decide,by decide,λj j0 j1=>?_⟩⟩)
   obtain⟨m',hm',em'⟩:=sW (a:=v) (b:=v - 10 ^ (9:Int).toNat) j0 j1
   have hv2 : -1000000000<=m'/\m'<=2000000000:=by
    have z:(10 ^ (9:Int).toNat:Int)=1000000000:=by decide
    rw [z]at hm'
    omega
   refine⟨l2,_,j,V.int m',rfl,rfl,SqL.of ae,em',?_⟩
   dsimp only [aK]
   have g5:aq H4 (upd H4 l2 (.lst [.int v,.int (v - 10 ^ (9:Int).toNat)])):=aq.new nl2
   generalize upd H4 l2 (.lst [.int v,.int (v - 10 ^ (9:Int).toNat)])=H5 at g5
   refine au (wG (k:=9) (v:=m') rfl λv' hv'=>?_)
   dsimp only
   have g25:=(g3.trans g4).trans g5
   have g15:=g12.trans g25
   have P5:=P2.grow g25
   have L5:Lm L H5:=bE L2' λb o e _ _=>g25 b o e
   have ho5:=g25 _ _ ho2
   clear r1 r2 e1 e2 lps lqs
   obtain⟨ps,e1,r1⟩:=id P5.st.hf
   obtain⟨qs,e2,r2⟩:=id P5.st.he
   have lps:ps.length=B.fs.length:=Paired.length r1
   have lqs:qs.length=B.ds.length:=Paired.length r2
   refine au (aI ⟨_,rfl,s.d,_,rfl,P5.st.d_f,s.f,_,rfl,.inl (SqL.of e1),?_⟩)
   rw [List.length_map,lps]
   dsimp only [aK]
   refine au (cQ (qx ?_))
   refine⟨_,rfl,s.d,_,rfl,P5.st.d_e,.inl ⟨rfl,_,SqL.of e2⟩,_,rfl,by show 2<=sizeLine;decide,λy' ny=>?_⟩
   have ne2:upd H5 y' (.tup [.str iJ,.int (B.fs.length:Int)]) s.e=some (.lst (qs.map V.ref)):=by rw [ag (af e2 ny)];exact e2
   refine⟨s.e,_,_,rfl,rfl,ne2,by rw [List.length_map];exact bo ‹1›,?_⟩
   dsimp only
   generalize E1:upd (upd H5 y' (.tup [.str ‹"find"›,.int (B.fs.length:Int)])) s.e (.lst (qs.map V.ref++[.ref y']))=H6
   have k6:∀b o,H5 b=some o->b≠s.e->H6 b=some o:=λb o e nb=>by rw [<- E1,ag nb,ag (af e ny)];exact e
   have d6:=k6 _ _ P5.st.dd (aD P5.st.dd e2 (by intro z;cases z))
   have f6':=k6 _ _ e1 P5.st.fe
   have e6:H6 s.e=some (.lst (qs.map V.ref++[.ref y'])):=by rw [<- E1,ae]
   have dg6:cB H6 s.d (.str ‹"found"›) (some (.ref s.f)):=by rw [<- Ap s];exact cB.k (k:=Sum.inr _) d6
   refine au (cQ (qx ?_))
   refine⟨_,rfl,s.d,_,rfl,dg6,.inl ⟨rfl,_,SqL.of f6'⟩,_,rfl,_,rfl,_,rfl,_,rfl,_,rfl,s.d,_,rfl,by rw [<- yG s];exact cB.k (k:=Sum.inr _) d6,s.e,_,rfl,.inl (SqL.of e6),by show 5<=sizeLine;decide,λz nz=>?_⟩
   rw [show ((qs.map V.ref++[V.ref y']).length:Int)=(B.ds.length:Int)+1 by rw [List.length_append,List.length_map,lqs];rfl]
   refine⟨s.f,_,_,rfl,rfl,by rw [ag (af f6' nz)];exact f6',by rw [List.length_map];exact bo ‹1›,?_⟩
   dsimp only
   generalize E2:upd (upd H6 z (.tup [.str k,.int x,.int y,.int v',.int ((B.ds.length:Int)+1)])) s.f (.lst (ps.map V.ref++[.ref z]))=H7
   obtain⟨S7,K7⟩:=P5.st.find e1 r1 e2 r2 ny E1.symm nz E2.symm
   have bk7:=P5.keeps K7
   have L7:Lm L H7:=bE L5 λb o e n1 n2=>K7 b o e λz=>by
    rcases P5.st.kind z with⟨ys,w⟩ | ⟨ys,w⟩
    ·rw [e]at w;exact n1 ys (Option.some.inj w)
    ·rw [e]at w;exact n2 ys (Option.some.inj w)
   obtain⟨pL7,hL7⟩:=L7.tbl
   have ho7:=K7 _ _ ho5 (P5.st.not_ins ho5)
   refine au (aI ⟨_,rfl,p,dx,_,rfl,ho7,bU a ‹0› ‹0› ‹0› ‹0› ‹0›,_,rfl,_,rfl,_,rfl,_,rfl,p,a,F,B,k,x,y,v',rfl,L7,bk7,hkk,x0,xy,y4,by omega,by omega,h60,λH' F' LH _ f1 gg bk'=>?_⟩)
   obtain⟨A1,A2,A3⟩:=P5.after S7 K7 hL7 f1 gg bk'
   dsimp only [aK]
   refine bA (gZ ⟨_,rfl,_,rfl,_,rfl,bT ⟨_,rfl,_,rfl,rfl,?_⟩⟩)
   rw [decide_eq_true rfl]
   refine q H' _ _ LH A1 (by show (B.ds++[_]).length=_;rw [List.length_append];rfl) (by show 1<=(B.fs++[_]).length;rw [List.length_append];exact Nat.le_add_left _ _) ⟨_,B.fs.length,_,rfl,List.getElem?_concat_length⟩ (λb hb=>(A2 b hb).imp_right g15.free) λb o e w1 w2 w3=>A3 b o (g15 b o e) w1 w2 w3
noncomputable abbrev yH:Stmt:=top 5
noncomputable abbrev lW:Stmt:=top 6
noncomputable abbrev tZ:Stmt:=top 9
def Within (rs:List aY) (f l:Int):Prop:=∀r∈rs,f<=r.1/\r.2.1<=l
theorem gw {ss acc rs:List aY}{f l:Int} (J:Strip.Joining ss acc) (p:ss.Perm rs) (h:Within rs f l):Within acc f l:=λr hr=>
 ⟨J.hi f (λt ht=>(h t (p.mem_iff.mp ht)).1) r hr,by have:=J.lo (l+1) (λt ht=>by have:=(h t (p.mem_iff.mp ht)).2;omega) r hr;omega⟩
noncomputable def tJ (T:Addr):Sp:=λvs H Q _=>∃(a:Addr) (f l:Int) (rs:List aY),vs=[.ref a,.int f,.int l]/\Lm T H/\bu H a rs/\Strip.Disj rs/\rs.length<=most/\f<=l/\
 ∀(b:Addr) (acc:List aY) (H':Hp),H b=none->Gm T H H'->bu H' b acc->Strip.Tidy acc->(∀n,Strip.dayOf acc n=if f<=n/\n<=l then Strip.dayOf rs n else none)->Within acc f l->acc.length<=rs.length->Q (.ref b) H'
theorem ni:FnScope ["strip", "first", "last", "rows", "start", "end", "mark"] ["strip", "first", "last"] (al yH):=‹2›
theorem zh {f T f1:Addr}{fd fd1:FuncData} (F:Fun K "cut" "cut" yH f fd) (N:Free mg) (CJ:Cal P w K mg base "joined" 3 ["rows"] (eN T) f1 fd1):FnOk P w K mg base CX0 4 f fd ["strip", "first", "last"] (tJ T):=by
 refine F.ok (k:=3) ni (λvs H Q E h=>?_) (λcdv A outer s H vs Q E hr h=>?_)
 ·obtain⟨a,f,l,rs,rfl,_⟩:=h
  rfl
 ·obtain⟨a,f,l,rs,rfl,L,⟨ps,ha,hp⟩,dj,hlen,hfl,hq⟩:=h
  refine⟨_,(ah (aB (i:=3) ni.nd rfl (Or.inl rfl) (be ad))
   (ah (bP PassesOwn.never rfl (bC (pv 0)) (cR rfl (aA (ay (i:=4) ni.nd rfl (Or.inl rfl)) (aA (ay (i:=5) ni.nd rfl (Or.inl rfl)) (aA (ay (i:=6) ni.nd rfl (Or.inl rfl)) cg)))) (aj (aW (PW.pt (dz (aQ fi (pv 4) (pv 2) (aN _)) (dC (aQ fi (pv 1) (pv 5) (aN _))))) (aj (aM (cT PySem.F.plainAttrs_list PySem.F.slot_list_append PySem.F.type_list_append b8 (pv 3) (aa (bz (aa (aG (lq rfl) (by rfl) N.max PyProof.Rows.Boot.«max» (aa (pv 4) (aa (pv 1) ad))) (aa (aG (iE rfl) (by rfl) N.min PyProof.Rows.Boot.«min» (aa (pv 5) (aa (pv 2) ad))) (aa (pv 6) ad)))) ad)))) aF)))
   (aj (az (am CJ.ok hr rfl CJ.nm CJ.kp CJ.bd .nil ao (aa (pv 3) ad)))))),?_⟩
  refine⟨Nat.zero_le _,λst nst=>?_⟩
  have g0:Gm T H (upd H st (.lst [])):=Go.new L nst
  have hlp:=bG hp
  refine⟨_,rfl,a,rfl,⟨_,SqL.of (g0.lst L ha)⟩,bO (K:=K) (a:=a) (xs:=ps.map V.ref) (λi σ H2=>∃(cs:List aY) (v4 v5 v6:Option V),σ=[some (.ref a),some (.int f),some (.int l),some (.ref st),v4,v5,v6]/\Gm T H H2/\bu H2 st cs/\
    Strip.DG cs (λn=>if f<=n/\n<=l then Strip.dayOf (rs.take i) n else none)/\Within cs f l/\cs.length<=i)
   ⟨[],none,none,none,rfl,g0,dL ae,Strip.DG.nil.eq λn=>by rw [List.take_zero];split <;> rfl,(λ_ h=>nomatch h),Nat.le_refl _⟩ (λi σ H2 _ hh=>?_) ?_ ?_⟩
  ·obtain⟨_,_,_,_,_,g,_⟩:=hh
   exact SqL.of (g.lst L ha)
  ·rintro i y σ H2 hi ⟨cs,v4,v5,v6,rfl,g2,⟨as,hst,hrs⟩,D,hw,hln⟩
   rw [List.getElem?_map]at hi
   cases ep:ps[i]? with
   | none=>rw [ep]at hi;cases hi
   | some p=>
    rw [ep]at hi
    cases hi
    obtain⟨r,er,ht0,hmk⟩:=dJ hp ep
    have ht:=g2.tup L ht0
    have hil:i < rs.length:=(List.getElem?_eq_some_iff.mp er).1
    refine⟨p,_,rfl,SqT.of ht,rfl,_,_,rfl,_,_,rfl,_,_,rfl,rfl,?_⟩
    have skip:¬(r.1<=l/\f<=r.2.1)->∃(cs:List aY) (v4 v5 v6:Option V),[some (V.ref a),some (V.int f),some (V.int l),some (V.ref st),some (V.int r.1),some (V.int r.2.1),some r.2.2]=[some (.ref a),some (.int f),some (.int l),some (.ref st),v4,v5,v6]/\Gm T H H2/\bu H2 st cs/\
      Strip.DG cs (λn=>if f<=n/\n<=l then Strip.dayOf (rs.take (i+1)) n else none)/\Within cs f l/\cs.length<=i+1:=λhn=>
     ⟨cs,_,_,_,rfl,g2,⟨as,hst,hrs⟩,Strip.cut_skip er hn D,hw,by omega⟩
    refine⟨_,rfl,_,rfl,_,_,rfl,rfl,_,rfl,fM (λh1=>?_) (λh1=>b9 (skip λz=>h1 (decide_eq_true z.1)))⟩
    have h1:r.1<=l:=of_decide_eq_true h1
    refine⟨_,rfl,_,rfl,_,_,rfl,rfl,_,rfl,fM (λh2=>?_) (λh2=>skip λz=>h2 (decide_eq_true z.2))⟩
    have h2:f<=r.2.1:=of_decide_eq_true h2
    obtain⟨D2,a1,b1⟩:=Strip.cut_put dj er hfl h1 h2 rfl rfl D
    refine⟨_,rfl,.inl ⟨rfl,_,SqL.of hst⟩,_,rfl,_,rfl,_,_,rfl,_,rfl,_,rfl,_,_,rfl,_,rfl,by show 3<=sizeLine;decide,λp' np=>?_⟩
    obtain⟨y1,y2⟩:=jw (r:=(if f > r.1 then f else r.1,if l < r.2.1 then l else r.2.1,r.2.2)) hst hrs np hmk
    refine⟨st,_,_,rfl,rfl,by rw [ag (af hst np)];exact hst,by rw [List.length_map,bG hrs];exact Nat.lt_of_le_of_lt hln (Nat.lt_of_lt_of_le (show i < 1000 by unfold most at hlen;omega) (by decide)),?_⟩
    refine⟨cs++[(if f > r.1 then f else r.1,if l < r.2.1 then l else r.2.1,r.2.2)],_,_,_,rfl,⟨λb o n e=>y2 b o (af e nst) (g2.same b o n e),g2.lam.row hst np⟩,y1,D2,λc hc=>?_,by rw [List.length_append];simp only [List.length_singleton];omega⟩
    rcases List.mem_append.mp hc with hc | hc
    ·exact hw c hc
    ·rw [List.mem_singleton.mp hc];exact⟨a1,b1⟩
  ·rintro σ H2 ⟨cs,v4,v5,v6,rfl,g2,hrs,D,hw,hln⟩
   have e:(ps.map V.ref).length=rs.length:=by rw [List.length_map];exact hlp
   rw [e]at D hln
   rw [List.take_length]at D
   refine⟨_,rfl,st,cs,rfl,g2.lam,hrs,D.dj,by omega,λb ss acc H3 nb g3 hacc pss J=>?_⟩
   have nb0:H b=none:=by
    refine g2.none nb λz=>?_
    obtain⟨ts,et⟩:=g2.lam.tbl
    rw [z,et]at nb;cases nb
   refine hq b acc H3 nb0 (g2.trans g3) hacc J.tidy (λn=>?_) (gw J pss hw) (by have:=J.len;have:=pss.length_eq;omega)
   rw [gK J pss D.dj,D.day]
noncomputable def jk (T:Addr):Sp:=λvs H Q _=>∃(a:Addr) (f l:Int) (rs:List aY),vs=[.ref a,.int f,.int l]/\Lm T H/\bu H a rs/\Strip.Disj rs/\rs.length<=400/\f<=l/\
 ∀(b:Addr) (acc:List aY) (H':Hp),H b=none->Gm T H H'->bu H' b acc->Strip.Tidy acc->(∀n,Strip.dayOf acc n=if f<=n/\n<=l then some ((Strip.dayOf rs n).getD .non) else none)->Within acc f l->acc.length<=2 * rs.length+1->Q (.ref b) H'
theorem Within.snoc {cs:List aY}{f l:Int}{r:aY} (h:Within cs f l) (h1:f<=r.1) (h2:r.2.1<=l):Within (cs++[r]) f l:=λc hc=>by
 rcases List.mem_append.mp hc with hc | hc
 ·exact h c hc
 ·rw [List.mem_singleton.mp hc];exact⟨h1,h2⟩
theorem dO:FnScope ["strip", "first", "last", "rows", "day", "start", "end", "mark"] ["strip", "first", "last"] (al lW):=‹2›
theorem rT {f T f1 f2:Addr}{fd fd1 fd2:FuncData} (F:Fun K "filled" "filled" lW f fd) (CJ:Cal P w K mg base "joined" 3 ["rows"] (eN T) f1 fd1) (CC:Cal P w K mg base "cut" 4 ["strip", "first", "last"] (tJ T) f2 fd2):FnOk P w K mg base CX0 5 f fd ["strip", "first", "last"] (jk T):=by
 refine F.ok (k:=4) dO (λvs H Q E h=>?_) (λcdv A outer s H vs Q E hr h=>?_)
 ·obtain⟨a,f,l,rs,rfl,_⟩:=h
  rfl
 ·obtain⟨a,f,l,rs,rfl,L,hrs,dj,hlen,hfl,hq⟩:=h
  have h3:Room 3 _:=hr.mono (by decide)
  refine⟨_,(ah (aB (i:=3) dO.nd rfl (Or.inl rfl) (be ad))
   (ah (aB (i:=4) dO.nd rfl (Or.inl rfl) (pv 1))
   (ah (bP PassesOwn.never rfl (bC (am CC.ok hr rfl CC.nm CC.kp CC.bd .nil ao (aa (pv 0) (aa (pv 1) (aa (pv 2) ad))))) (cR rfl (aA (ay (i:=5) dO.nd rfl (Or.inl rfl)) (aA (ay (i:=6) dO.nd rfl (Or.inl rfl)) (aA (ay (i:=7) dO.nd rfl (Or.inl rfl)) cg)))) (ah (aW (aQ qz (pv 4) (pv 5) (aN _)) (aj (aM (cT PySem.F.plainAttrs_list PySem.F.slot_list_append PySem.F.type_list_append b8 (pv 3) (aa (bz (aa (pv 4) (aa (aE eY (pv 5) ai) (aa gC ad)))) ad)))) aF)
   (ah (aM (cT PySem.F.plainAttrs_list PySem.F.slot_list_append PySem.F.type_list_append b8 (pv 3) (aa (bz (aa (pv 5) (aa (pv 6) (aa (pv 7) ad)))) ad)))
   (aj (aB (i:=4) dO.nd rfl (Or.inl rfl) (aE bB (pv 6) ai))))))
   (ah (aW (aQ fi (pv 4) (pv 2) (aN _)) (aj (aM (cT PySem.F.plainAttrs_list PySem.F.slot_list_append PySem.F.type_list_append b8 (pv 3) (aa (bz (aa (pv 4) (aa (pv 2) (aa gC ad)))) ad)))) aF)
   (aj (az (am CJ.ok h3 rfl CJ.nm CJ.kp CJ.bd .nil ao (aa (pv 3) ad)))))))),?_⟩
  refine⟨Nat.zero_le _,λst nst=>?_⟩
  have g0:Gm T H (upd H st (.lst [])):=Go.new L nst
  refine⟨_,rfl,?_⟩
  refine⟨_,rfl,_,rfl,_,rfl,a,f,l,rs,rfl,g0.lam,g0.rows L hrs,dj,by unfold most;omega,hfl,λb acc H1 nb g1 hacc ht hday hw hal=>?_⟩
  obtain⟨ps,hb,hp⟩:=hacc
  have g01:Gm T H H1:=g0.trans g1
  have hst1:H1 st=some (.lst []):=g1.lst g0.lam ae
  have bst:b≠st:=λz=>by rw [z,ae]at nb;cases nb
  have hlp:=bG hp
  refine⟨b,rfl,⟨_,SqL.of hb⟩,bO (K:=K) (a:=b) (xs:=ps.map V.ref) (λi σ H2=>∃(cs:List aY) (day:Int) (v5 v6 v7:Option V),σ=[some (.ref a),some (.int f),some (.int l),some (.ref st),some (.int day),v5,v6,v7]/\Gm T H H2/\H2 b=some (.lst (ps.map V.ref))/\(∀p xs,H1 p=some (.tup xs)->H2 p=some (.tup xs))/\bu H2 st cs/\
    Strip.DG cs (Strip.fillG .non (acc.take i) f day)/\Within cs f l/\f<=day/\day<=l+1/\(∀r∈acc.take i,r.2.1 < day)/\(∀r,acc[i]?=some r->day<=r.1)/\cs.length<=2 * i)
   ⟨[],f,none,none,none,rfl,g01,hb,(λ_ _ e=>e),dL hst1,Strip.DG.nil.eq λn=>(if_neg ‹1›).symm,(λ_ h=>nomatch h),Int.le_refl _,by omega,(λr h=>by rw [List.take_zero]at h;cases h),λr h=>(hw r (List.mem_of_getElem? h)).1,Nat.le_refl _⟩ (λi σ H2 _ hh=>?_) ?_ ?_⟩
  ·obtain⟨_,_,_,_,_,_,_,hb2,_⟩:=hh
   exact SqL.of hb2
  ·rintro i y σ H2 hi ⟨cs,day,v5,v6,v7,rfl,g2,hb2,kt,⟨as,hst,hrs2⟩,D,hw2,d0,d1,hp2,hnx,hln⟩
   rw [List.getElem?_map]at hi
   cases ep:ps[i]? with
   | none=>rw [ep]at hi;cases hi
   | some p=>
    rw [ep]at hi
    cases hi
    obtain⟨r,er,ht1,hmk⟩:=dJ hp ep
    have ht2:=kt p _ ht1
    have hil:i < acc.length:=(List.getElem?_eq_some_iff.mp er).1
    have hrl:r.1<=r.2.1:=ht.up.le r (List.mem_of_getElem? er)
    obtain⟨hw1,hw3⟩:=hw r (List.mem_of_getElem? er)
    have hdr:day<=r.1:=hnx r er
    refine⟨p,_,rfl,SqT.of ht2,rfl,_,_,rfl,_,_,rfl,_,_,rfl,rfl,?_⟩
    have go:∀(cs2:List aY) (as2:List Addr) (H3:Hp),Gm T H H3->H3 b=some (.lst (ps.map V.ref))->(∀p xs,H1 p=some (.tup xs)->H3 p=some (.tup xs))->H3 st=some (.lst (as2.map V.ref))->ci H3 as2 cs2->Strip.DG cs2 (Strip.fillG .non (acc.take i) f r.1)->Within cs2 f l->cs2.length<=2 * i+1->
      ∀p',H3 p'=none->∃(cs:List aY) (day:Int) (v5 v6 v7:Option V),[some (V.ref a),some (V.int f),some (V.int l),some (V.ref st),some (V.int (r.2.1+1)),some (V.int r.1),some (V.int r.2.1),some r.2.2]=[some (.ref a),some (.int f),some (.int l),some (.ref st),some (.int day),v5,v6,v7]/\Gm T H (upd (upd H3 p' (.tup (cE r))) st (.lst (as2.map V.ref++[V.ref p'])))/\(upd (upd H3 p' (.tup (cE r))) st (.lst (as2.map V.ref++[V.ref p']))) b=some (.lst (ps.map V.ref))/\(∀p xs,H1 p=some (.tup xs)->(upd (upd H3 p' (.tup (cE r))) st (.lst (as2.map V.ref++[V.ref p']))) p=some (.tup xs))/\bu (upd (upd H3 p' (.tup (cE r))) st (.lst (as2.map V.ref++[V.ref p']))) st cs/\
       Strip.DG cs (Strip.fillG .non (acc.take (i+1)) f day)/\Within cs f l/\f<=day/\day<=l+1/\(∀r∈acc.take (i+1),r.2.1 < day)/\(∀r,acc[i+1]?=some r->day<=r.1)/\cs.length<=2 * (i+1):=λcs2 as2 H3 g3 hb3 kt3 hst3 hrs3 D3 hw4 hl4 p' np=>by
     obtain⟨z1,z2,z3⟩:=jv nst g3 hst3 hrs3 np hmk
     have D4:=Strip.fill_row D3 hrl hw1 rfl
     rw [<- Strip.take_snoc er]at D4
     refine⟨cs2++[r],r.2.1+1,_,_,_,rfl,z1,z3 b _ bst hb3,λp xs e=>z3 p _ (aD (kt3 p xs e) hst3 (by intro z;cases z)) (kt3 p xs e),z2,D4,hw4.snoc hw1 hw3,by omega,by omega,λq hq=>?_,λq hq=>?_,by rw [List.length_append];simp only [List.length_singleton];omega⟩
     ·rw [Strip.take_snoc er]at hq
      rcases List.mem_append.mp hq with hq | hq
      ·have:=hp2 q hq;omega
      ·rw [List.mem_singleton.mp hq];omega
     ·have:=List.pairwise_iff_getElem.mp ht.up.lt i (i+1) hil (List.getElem?_eq_some_iff.mp hq).1 (Nat.lt_succ_self _)
      rw [(List.getElem?_eq_some_iff.mp er).2,(List.getElem?_eq_some_iff.mp hq).2]at this
      unfold Strip.Lt at this
      omega
    have sz:∀{as2:List Addr}{cs2:List aY}{H3:Hp},ci H3 as2 cs2->cs2.length<=2 * i+1->(as2.map V.ref).length < sizeLine:=λh1 h2=>by
     rw [List.length_map,bG h1]
     exact Nat.lt_of_lt_of_le (show _ < 900 by omega) (by decide)
    refine⟨_,rfl,_,rfl,_,_,rfl,rfl,_,rfl,fM (λh=>?_) (λh=>?_)⟩
    ·have h:day < r.1:=of_decide_eq_true h
     refine⟨_,rfl,.inl ⟨rfl,_,SqL.of hst⟩,_,rfl,_,rfl,_,_,rfl,rfl,by show 3<=sizeLine;decide,λp1 np1=>?_⟩
     refine⟨st,_,_,rfl,rfl,by rw [ag (af hst np1)];exact hst,sz hrs2 ‹1›,?_⟩
     obtain⟨z1,⟨as3,z2,z2'⟩,z3⟩:=jv (r:=(day,r.1 - 1,V.non)) nst g2 hst hrs2 np1 trivial
     have D2:=Strip.fill_gap D hp2 d0 (show day<=r.1 - 1 by omega) (show r.1=r.1 - 1+1 by omega)
     have ht3:=z3 p _ (aD ht2 hst (by intro z;cases z)) ht2
     have hl5:(cs++[(day,r.1 - 1,V.non)]).length<=2 * i+1:=by rw [List.length_append];simp only [List.length_singleton];omega
     refine⟨_,rfl,.inl ⟨rfl,_,SqL.of z2⟩,_,rfl,_,rfl,_,rfl,by show 3<=sizeLine;decide,λp2 np2=>?_⟩
     refine⟨st,_,_,rfl,rfl,by rw [ag (af z2 np2)];exact z2,sz z2' hl5,_,rfl,_,_,rfl,rfl,?_⟩
     exact go _ as3 _ z1 (z3 b _ bst hb2) (λq xs e=>z3 q _ (aD (kt q xs e) hst (by intro z;cases z)) (kt q xs e)) z2 z2' D2 (hw2.snoc d0 (by show r.1 - 1<=l;omega)) hl5 p2 np2
    ·have h:r.1=day:=by
      have:¬day < r.1:=λz=>h (decide_eq_true z)
      omega
     refine⟨_,rfl,.inl ⟨rfl,_,SqL.of hst⟩,_,rfl,_,rfl,_,rfl,by show 3<=sizeLine;decide,λp2 np2=>?_⟩
     refine⟨st,_,_,rfl,rfl,by rw [ag (af hst np2)];exact hst,sz hrs2 ‹1›,_,rfl,_,_,rfl,rfl,?_⟩
     exact go cs as H2 g2 hb2 kt hst hrs2 (by rw [h];exact D) hw2 ‹1› p2 np2
  ·rintro σ H2 ⟨cs,day,v5,v6,v7,rfl,g2,hb2,kt,⟨as,hst,hrs2⟩,D,hw2,d0,d1,hp2,hnx,hln⟩
   have e:(ps.map V.ref).length=acc.length:=by rw [List.length_map];exact hlp
   rw [e]at D hp2 hln
   rw [List.take_length]at D hp2
   have fin:∀(cs2:List aY) (H3:Hp),Gm T H H3->bu H3 st cs2->Strip.DG cs2 (Strip.fillG .non acc f (l+1))->Within cs2 f l->cs2.length<=2 * rs.length+1->eN T [.ref st] H3 Q E:=λcs2 H3 g3 hr3 D3 hw3 hl3=>by
    refine⟨st,cs2,rfl,g3.lam,hr3,D3.dj,by unfold most;omega,λb2 ss acc2 H4 nb2 g4 hacc2 pss J=>?_⟩
    refine hq b2 acc2 H4 (Gm.free g3 nb2) (g3.trans g4) hacc2 J.tidy (λn=>?_) (gw J pss hw3) (by have:=J.len;have:=pss.length_eq;omega)
    rw [gK J pss D3.dj,D3.day]
    unfold Strip.fillG
    by_cases z:f<=n/\n<=l
    ·rw [if_pos z,if_pos ‹1›,hday,if_pos z]
    ·rw [if_neg z,if_neg ‹1›]
   refine⟨_,rfl,_,rfl,_,_,rfl,rfl,_,rfl,fM (λh=>?_) (λh=>?_)⟩
   ·have h:day<=l:=of_decide_eq_true h
    refine⟨_,rfl,.inl ⟨rfl,_,SqL.of hst⟩,_,rfl,_,rfl,by show 3<=sizeLine;decide,λp1 np1=>?_⟩
    refine⟨st,_,_,rfl,rfl,by rw [ag (af hst np1)];exact hst,by rw [List.length_map,bG hrs2];exact Nat.lt_of_lt_of_le (show cs.length < 900 by omega) (by decide),?_⟩
    obtain⟨z1,z2,z3⟩:=jv (r:=(day,l,V.non)) nst g2 hst hrs2 np1 trivial
    exact⟨_,rfl,fin _ _ z1 z2 (Strip.fill_gap D hp2 d0 h rfl) (hw2.snoc d0 (Int.le_refl _)) (by rw [List.length_append];simp only [List.length_singleton];omega)⟩
   ·have h:day=l+1:=by
     have:¬day<=l:=λz=>h (decide_eq_true z)
     omega
    subst h
    exact⟨_,rfl,fin cs H2 g2 ⟨as,hst,hrs2⟩ D hw2 ‹1›⟩
noncomputable def gOf (rs:List aY):Int->V:=λn=>(Strip.dayOf rs n).getD .non
noncomputable def vC (rs ss:List aY):Int->V × V:=λn=>(gOf rs n,gOf ss n)
noncomputable def lM (T:Addr):Sp:=λvs H Q _=>∃(a b:Addr) (f l:Int) (rs ss:List aY),vs=[.ref a,.ref b,.int f,.int l]/\Lm T H/\bu H a rs/\bu H b ss/\Strip.Disj rs/\Strip.Disj ss/\rs.length<=400/\ss.length<=400/\f<=l/\
 ∀(d:Addr) (acc:List eA) (H':Hp),H d=none->Gm T H H'->lC H' d acc->Strip.Full acc f l (vC rs ss)->acc.length < 700000->Q (.ref d) H'
theorem fz:FnScope ["one", "other", "first", "last", "rows", "start", "end", "mark", "beside_start", "beside_end", "beside"] ["one", "other", "first", "last"] (al tZ):=‹2›
theorem wZ {f T f1:Addr}{fd fd1:FuncData} (F:Fun K "side_by_side" "side_by_side" tZ f fd) (CF:Cal P w K mg base "filled" 5 ["strip", "first", "last"] (jk T) f1 fd1):FnOk P w K mg base CX0 6 f fd ["one", "other", "first", "last"] (lM T):=by
 refine F.ok (k:=5) fz (λvs H Q E h=>?_) (λcdv A outer s H vs Q E hr h=>?_)
 ·obtain⟨a,b,f,l,rs,ss,rfl,_⟩:=h
  rfl
 ·obtain⟨a,b,f,l,rs,ss,rfl,L,hrs,hss,d1,d2,ln1,ln2,hfl,hq⟩:=h
  refine⟨_,(ah (aB (i:=4) fz.nd rfl (Or.inl rfl) (be ad))
   (ah (bP PassesOwn.never rfl (bC (am CF.ok hr rfl CF.nm CF.kp CF.bd .nil ao (aa (pv 0) (aa (pv 2) (aa (pv 3) ad))))) (cR rfl (aA (ay (i:=5) fz.nd rfl (Or.inl rfl)) (aA (ay (i:=6) fz.nd rfl (Or.inl rfl)) (aA (ay (i:=7) fz.nd rfl (Or.inl rfl)) cg)))) (aj (bP PassesOwn.never rfl (bC (am CF.ok hr rfl CF.nm CF.kp CF.bd .nil ao (aa (pv 1) (aa (pv 5) (aa (pv 6) ad))))) (cR rfl (aA (ay (i:=8) fz.nd rfl (Or.inl rfl)) (aA (ay (i:=9) fz.nd rfl (Or.inl rfl)) (aA (ay (i:=10) fz.nd rfl (Or.inl rfl)) cg)))) (aj (aM (cT PySem.F.plainAttrs_list PySem.F.slot_list_append PySem.F.type_list_append b8 (pv 4) (aa (bz (aa (pv 8) (aa (pv 9) (aa (pv 7) (aa (pv 10) ad))))) ad)))))))
   (aj (az (pv 4))))),?_⟩
  refine⟨Nat.zero_le _,λst nst=>?_⟩
  have g0:Gm T H (upd H st (.lst [])):=Go.new L nst
  refine⟨_,rfl,_,rfl,_,rfl,a,f,l,rs,rfl,g0.lam,g0.rows L hrs,d1,ln1,hfl,λb1 acc1 H1 nb1 g1 hacc1 t1 dy1 w1 l1=>?_⟩
  have F1:Strip.Full acc1 f l (gOf rs):=⟨t1,dy1⟩
  obtain⟨ps,hb1,hp1⟩:=hacc1
  have g01:Gm T H H1:=g0.trans g1
  have hst1:H1 st=some (.lst []):=g1.lst g0.lam ae
  have b1st:b1≠st:=λz=>by rw [z,ae]at nb1;cases nb1
  have hlp:=bG hp1
  have some1:=F1.some hfl
  refine⟨b1,rfl,⟨_,SqL.of hb1⟩,bO (K:=K) (a:=b1) (xs:=ps.map V.ref) (λi σ H2=>∃(cs:List eA) (day:Int) (v5 v6 v7 v8 v9 v10:Option V),σ=[some (.ref a),some (.ref b),some (.int f),some (.int l),some (.ref st),v5,v6,v7,v8,v9,v10]/\Gm T H H2/\H2 b1=some (.lst (ps.map V.ref))/\(∀p xs,H1 p=some (.tup xs)->H2 p=some (.tup xs))/\lC H2 st cs/\
    Strip.Part cs f day (vC rs ss)/\(∀r,acc1[i]?=some r->day=r.1)/\(acc1[i]?=none->day=l+1)/\cs.length<=801 * i)
   ⟨[],f,none,none,none,none,none,none,rfl,g01,hb1,(λ_ _ e=>e),⟨[],hst1,.nil⟩,Strip.Part.nil,λr e=>(F1.first e).symm,λe=>absurd some1 (by have:=List.getElem?_eq_none_iff.mp e;omega),Nat.le_refl _⟩ (λi σ H2 _ hh=>?_) ?_ ?_⟩
  ·obtain⟨_,_,_,_,_,_,_,_,_,_,hb,_⟩:=hh
   exact SqL.of hb
  ·rintro i y σ H2 hi ⟨cs,day,v5,v6,v7,v8,v9,v10,rfl,g2,hb2,kt,hcs,PP,hdy,hdn,hln⟩
   rw [List.getElem?_map]at hi
   cases ep:ps[i]? with
   | none=>rw [ep]at hi;cases hi
   | some p=>
    rw [ep]at hi
    cases hi
    obtain⟨r,er,ht1,hmk⟩:=dJ hp1 ep
    have ht2:=kt p _ ht1
    have hil:i < acc1.length:=(List.getElem?_eq_some_iff.mp er).1
    have hrl:r.1<=r.2.1:=t1.up.le r (List.mem_of_getElem? er)
    obtain⟨rf,rl,rg⟩:=F1.row (List.mem_of_getElem? er)
    have hday:day=r.1:=hdy r er
    refine⟨p,_,rfl,SqT.of ht2,rfl,_,_,rfl,_,_,rfl,_,_,rfl,rfl,?_⟩
    refine⟨_,rfl,_,rfl,_,rfl,b,r.1,r.2.1,ss,rfl,g2.lam,g2.rows L hss,d2,ln2,hrl,λb2 acc2 H3 nb2 g3 hacc2 t2 dy2 w2 l2=>?_⟩
    have F2:Strip.Full acc2 r.1 r.2.1 (gOf ss):=⟨t2,dy2⟩
    obtain⟨qs,hb3,hq3⟩:=hacc2
    have g03:Gm T H H3:=g2.trans g3
    have hcs3:=g3.rowsW g2.lam hcs
    have hb13:=g3.lst g2.lam hb2
    have kt3:∀p xs,H1 p=some (.tup xs)->H3 p=some (.tup xs):=λp xs e=>g3.tup g2.lam (kt p xs e)
    have b2st:b2≠st:=by
     obtain⟨_,e,_⟩:=hcs
     exact(af e nb2).symm
    have hlq:=bG hq3
    have some2:=F2.some hrl
    refine⟨b2,rfl,⟨_,SqL.of hb3⟩,bO (K:=K) (a:=b2) (xs:=qs.map V.ref) (λj σ H4=>∃(cs:List eA) (day:Int) (v8 v9 v10:Option V),σ=[some (.ref a),some (.ref b),some (.int f),some (.int l),some (.ref st),some (.int r.1),some (.int r.2.1),some r.2.2,v8,v9,v10]/\Gm T H H4/\H4 b1=some (.lst (ps.map V.ref))/\H4 b2=some (.lst (qs.map V.ref))/\(∀p xs,H1 p=some (.tup xs)->H4 p=some (.tup xs))/\(∀p xs,H3 p=some (.tup xs)->H4 p=some (.tup xs))/\lC H4 st cs/\
      Strip.Part cs f day (vC rs ss)/\(∀s,acc2[j]?=some s->day=s.1)/\(acc2[j]?=none->day=r.2.1+1)/\cs.length<=801 * i+j)
     ⟨cs,day,v8,v9,v10,rfl,g03,hb13,hb3,kt3,(λ_ _ e=>e),hcs3,PP,λs e=>hday.trans (F2.first e).symm,λe=>absurd some2 (by have:=List.getElem?_eq_none_iff.mp e;omega),by omega⟩ (λj σ H4 _ hh=>?_) ?_ ?_⟩
    ·obtain⟨_,_,_,_,_,_,_,_,hb,_⟩:=hh
     exact SqL.of hb
    ·rintro j y σ H4 hj ⟨cs,day,v8,v9,v10,rfl,g4,hb14,hb24,kt4,kt43,⟨as,hst4,hcs4⟩,PP,hdy2,hdn2,hln2⟩
     rw [List.getElem?_map]at hj
     cases eq:qs[j]? with
     | none=>rw [eq]at hj;cases hj
     | some p2=>
      rw [eq]at hj
      cases hj
      obtain⟨s,es,hs3,hmk2⟩:=dJ hq3 eq
      have hs4:=kt43 p2 _ hs3
      have hjl:j < acc2.length:=(List.getElem?_eq_some_iff.mp es).1
      have hsl:s.1<=s.2.1:=t2.up.le s (List.mem_of_getElem? es)
      obtain⟨sf,sl,sg⟩:=F2.row (List.mem_of_getElem? es)
      have hday2:day=s.1:=hdy2 s es
      subst hday2
      refine⟨p2,_,rfl,SqT.of hs4,rfl,_,_,rfl,_,_,rfl,_,_,rfl,rfl,?_⟩
      refine⟨_,rfl,.inl ⟨rfl,_,SqL.of hst4⟩,_,rfl,_,rfl,_,rfl,_,rfl,by show 4<=sizeLine;decide,λp' np=>?_⟩
      have P2:=PP.put (e:=s.2.1) (m:=(r.2.2,s.2.2)) ‹1› hsl (λn n0 n1=>by
       show (gOf rs n,gOf ss n)=(r.2.2,s.2.2)
       rw [rg n ⟨by omega,by omega⟩,sg n ⟨n0,n1⟩]) (by
       cases j with
       | succ j'=>
        right
        obtain⟨s',es'⟩:∃s',acc2[j']?=some s':=⟨_,List.getElem?_eq_getElem ‹1›⟩
        obtain⟨n1,n2⟩:=F2.next es' es
        have ls':=t2.up.le s' (List.mem_of_getElem? es')
        have g':=(F2.row (List.mem_of_getElem? es')).2.2 s'.2.1 ⟨ls',Int.le_refl _⟩
        intro z
        have z2:gOf ss (s.1 - 1)=s.2.2:=congrArg Prod.snd z
        rw [show s.1 - 1=s'.2.1 by omega,g']at z2
        exact n2 z2
       | zero=>
        have e1:s.1=r.1:=F2.first es
        cases i with
        | zero=>left;rw [e1];exact F1.first er
        | succ i'=>
         right
         obtain⟨r',er'⟩:∃r',acc1[i']?=some r':=⟨_,List.getElem?_eq_getElem ‹1›⟩
         obtain⟨n1,n2⟩:=F1.next er' er
         have lr':=t1.up.le r' (List.mem_of_getElem? er')
         have g':=(F1.row (List.mem_of_getElem? er')).2.2 r'.2.1 ⟨lr',Int.le_refl _⟩
         intro z
         have z2:gOf rs (s.1 - 1)=r.2.2:=congrArg Prod.fst z
         rw [show s.1 - 1=r'.2.1 by omega,g']at z2
         exact n2 z2)
      obtain⟨y1,y2⟩:=rF (r:=(s.1,s.2.1,r.2.2,s.2.2)) hst4 hcs4 np ⟨hmk,hmk2⟩
      refine⟨st,_,_,rfl,rfl,by rw [ag (af hst4 np)];exact hst4,by rw [List.length_map,kM hcs4];exact Nat.lt_of_lt_of_le (show cs.length < 700000 by omega) (by decide),?_⟩
      refine⟨cs++[(s.1,s.2.1,r.2.2,s.2.2)],s.2.1+1,_,_,_,rfl,⟨λc o n e=>y2 c o (af e nst) (g4.same c o n e),g4.lam.row hst4 np⟩,y2 b1 _ b1st hb14,y2 b2 _ b2st hb24,λq xs e=>y2 q _ (aD (kt4 q xs e) hst4 (by intro z;cases z)) (kt4 q xs e),λq xs e=>y2 q _ (aD (kt43 q xs e) hst4 (by intro z;cases z)) (kt43 q xs e),y1,P2,λs' e=>(F2.next es e).1.symm,λe=>by rw [F2.last es e],by rw [List.length_append];simp only [List.length_singleton];omega⟩
    ·rintro σ H4 ⟨cs,day,v8,v9,v10,rfl,g4,hb14,hb24,kt4,kt43,hcs4,PP,hdy2,hdn2,hln2⟩
     have e:(qs.map V.ref).length=acc2.length:=by rw [List.length_map];exact hlq
     rw [e]at hdn2 hln2
     have hd:=hdn2 (List.getElem?_eq_none (Nat.le_refl _))
     subst hd
     refine⟨cs,r.2.1+1,_,_,_,_,_,_,rfl,g4,hb14,kt4,hcs4,PP,λr' e=>(F1.next er e).1.symm,λe=>by rw [F1.last er e],by omega⟩
  ·rintro σ H2 ⟨cs,day,v5,v6,v7,v8,v9,v10,rfl,g2,hb2,kt,hcs,PP,hdy,hdn,hln⟩
   have e:(ps.map V.ref).length=acc1.length:=by rw [List.length_map];exact hlp
   rw [e]at hdn hln
   have hd:=hdn (List.getElem?_eq_none (Nat.le_refl _))
   subst hd
   exact⟨_,rfl,hq st cs H2 nst g2 hcs PP.full ‹1›⟩
noncomputable abbrev iZ:Stmt:=top 19
noncomputable def fN (B:Bk) (k:Str) (t u:Nat):Int->V × V:=λn=>(((B.spk k t n).map V.int).getD .non,((B.spk k u n).map V.int).getD .non)
noncomputable def neW (r:eA):Bool:=!decide (r.2.2.1=r.2.2.2)
noncomputable def xG (k:Str) (r:eA):aO:=(k,r.1,r.2.1,r.2.2.1,r.2.2.2)
inductive Boxes (B:Bk) (t u:Nat):List Str->List aO->Prop
 | nil:Boxes B t u [] []
 | snoc {ks:List Str}{k:Str}{bs:List aO}{acc:List eA}:Boxes B t u ks bs->Strip.Full acc 0 399 (fN B k t u)->Boxes B t u (ks++[k]) (bs++(acc.filter neW).map (xG k))
theorem sV {B:Bk}{k:Str}{t u:Nat}{rs ss:List aY} (h1:∀x,Strip.dayOf rs x=(B.spk k t x).map V.int) (h2:∀x,Strip.dayOf ss x=(B.spk k u x).map V.int):vC rs ss=fN B k t u:=by
 funext n
 unfold vC gOf fN
 rw [h1,h2]
def Turn (B:Bk) (v:V) (t:Nat):Prop:=t<=B.ds.length/\((v=.non/\t=B.ds.length)\/v=.int (t:Int))
noncomputable def ji (C L:Addr):Sp:=λvs H Q _=>∃(p:Addr) (a:BA) (F:Addr->Prop) (B:Bk) (v1 v2:V) (t u:Nat),vs=[.ref p,v1,v2]/\Lm L H/\BkAt C H p a F B/\(∀b,F b->b≠L)/\Turn B v1 t/\Turn B v2 u/\
 ∀(d:Addr) (bs:List aO) (H':Hp),H d=none->Gm L H H'->dZ H' d bs->Boxes B t u B.ks bs->bs.length<=6000000->Q (.ref d) H'
theorem bN:FnScope ["book", "one", "other", "boxes", "key", "table", "first", "last", "speaker", "beside"] ["book", "one", "other"] (al iZ):=‹2›
theorem rO {f f1 f2 f3 C L:Addr}{fd:FuncData} (F:Fun K "unlike" "unlike" iZ f fd) (N:Con mg){fd1:FuncData} (ML:MC P w K mg base C "all_keys" 1 ["self"] [] [] (tL C) f1 fd1){fd2:FuncData} (T2:MC P w K mg base C "table" 3 ["self", "key", "turn"] [] [] (iX C) f2 fd2){fd3:FuncData} (CS:Cal P w K mg base "side_by_side" 6 ["one", "other", "first", "last"] (lM L) f3 fd3):FnOk P w K mg base CX0 7 f fd ["book", "one", "other"] (ji C L):=by
 obtain⟨t1,c1⟩:=N.lastday
 refine F.ok (k:=6) bN (λvs H Q E h=>?_) (λcdv A outer s H vs Q E hr h=>?_)
 ·obtain⟨p,a,F,B,v1,v2,t,u,rfl,_⟩:=h
  rfl
 ·obtain⟨p,a,F,B,v1,v2,t,u,rfl,LL,h,hF,⟨ht,hv1⟩,⟨hu2,hv2⟩,q⟩:=h
  have hu:=aS hr
  refine⟨_,(ah (aB (i:=3) bN.nd rfl (Or.inl rfl) (be ad))
   (ah (bP PassesOwn.never rfl (bC (bY (pv 0) ML.cl ML.mt ML.ok (hr.mono (by decide)) ML.bd ML.dv ao)) (ay (i:=4) bN.nd rfl (Or.inl rfl))
   (ah (aB (i:=5) bN.nd rfl (Or.inl rfl) (bQ (pv 0) T2.cl T2.mt T2.ok (hr.mono (by decide)) T2.bd T2.dv ao (aa (pv 4) (aa (pv 1) ad))))
   (aj (bP PassesOwn.never rfl (bC (am CS.ok (hr.mono (by decide)) rfl CS.nm CS.kp CS.bd .nil ao (aa (pv 5) (aa (bQ (pv 0) T2.cl T2.mt T2.ok (hr.mono (by decide)) T2.bd T2.dv ao (aa (pv 4) (aa (pv 2) ad))) (aa ai (aa (dc (v:=.int 399) (by rfl) c1 ⟨_,rfl⟩) ad)))))) (cR rfl (aA (ay (i:=6) bN.nd rfl (Or.inl rfl)) (aA (ay (i:=7) bN.nd rfl (Or.inl rfl)) (aA (ay (i:=8) bN.nd rfl (Or.inl rfl)) (aA (ay (i:=9) bN.nd rfl (Or.inl rfl)) cg)))))
   (aj (aW (aQ qy (pv 8) (pv 9) (aN _)) (aj (aM (cT PySem.F.plainAttrs_list PySem.F.slot_list_append PySem.F.type_list_append b8 (pv 3) (aa (bz (aa (pv 4) (aa (pv 6) (aa (pv 7) (aa (pv 8) (aa (pv 9) ad)))))) ad)))) aF))))))
   (aj (az (pv 3))))),?_⟩
  obtain⟨dx,ho⟩:=h.ob
  have O:=h.ok
  have k8:=O.k8
  obtain⟨pL,hL⟩:=LL.tbl
  have bkG:∀{H2:Hp},Gm L H H2->BkAt C H2 p a F B:=λg=>h.keep ⟨λb o f e=>g.same b o (hF b f) e,λb xs e=>g.tup LL e,λb c dx fs e=>g.same b _ (aD e hL (by intro z;cases z)) e⟩
  have hoG:∀{H2:Hp},Gm L H H2->H2 p=some (.ins C dx (cX a)):=λg=>g.same p _ (aD ho hL (by intro z;cases z)) ho
  refine au (aI ⟨Nat.zero_le _,λbl nbl=>?_⟩)
  have g1:Gm L H (upd H bl (.lst [])):=Go.new LL nbl
  have e1:upd H bl (.lst []) bl=some (.lst []):=ae
  generalize upd H bl (.lst [])=H1 at g1 e1
  dsimp only [aK]
  refine au ?_
  refine⟨_,rfl,p,dx,_,rfl,hoG g1,bU a ‹0› ‹0› ‹0› ‹0› ‹0›,p,a,F,B,rfl,bkG g1,λkl nkl=>?_⟩
  have g2:Gm L H (upd H1 kl (.lst (B.ks.map V.str))):=g1.trans (Go.new g1.lam nkl)
  have ek:upd H1 kl (.lst (B.ks.map V.str)) kl=some (.lst (B.ks.map V.str)):=ae
  have e2:upd H1 kl (.lst (B.ks.map V.str)) bl=some (.lst []):=by rw [ag (af e1 nkl)];exact e1
  have kb:kl≠bl:=λz=>by rw [z,e1]at nkl;cases nkl
  have nkl0:H kl=none:=Gm.free g1 nkl
  generalize upd H1 kl (.lst (B.ks.map V.str))=H2 at g2 ek e2
  refine⟨kl,rfl,⟨_,SqL.of ek⟩,bO (K:=K) (a:=kl) (xs:=B.ks.map V.str) (λi σ H3=>∃(bs:List aO) (v4 v5 v6 v7 v8 v9:Option V),σ=[some (.ref p),some v1,some v2,some (.ref bl),v4,v5,v6,v7,v8,v9]/\Gm L H H3/\H3 kl=some (.lst (B.ks.map V.str))/\dZ H3 bl bs/\Boxes B t u (B.ks.take i) bs/\bs.length<=700000 * i)
   ⟨[],none,none,none,none,none,none,rfl,g2,ek,⟨[],e2,.nil⟩,(by rw [List.take_zero];exact .nil),Nat.zero_le _⟩ (λi σ H3 _ hh=>?_) ?_ ?_⟩
  ·obtain⟨_,_,_,_,_,_,_,_,_,e,_⟩:=hh
   exact SqL.of e
  ·rintro i y σ H3 hi ⟨bs,v4,v5,v6,v7,v8,v9,rfl,g3,ek3,hbs,hB,hln⟩
   rw [List.getElem?_map]at hi
   cases ekk:B.ks[i]? with
   | none=>rw [ekk]at hi;cases hi
   | some k=>
    rw [ekk]at hi
    cases hi
    have hkm:=List.mem_of_getElem? ekk
    have hi8:=(List.getElem?_eq_some_iff.mp ekk).1
    have hNk:=O.nm k hkm
    dsimp only [aK]
    refine au (aI ⟨_,rfl,p,dx,_,rfl,hoG g3,bU a ‹0› ‹0› ‹0› ‹0› ‹0›,_,rfl,_,rfl,p,a,F,B,k,_,t,rfl,(bkG g3).toT,hkm,ht,hv1,λl1 ps1 rs1 nl1 hp1 td1 i41 dy1=>?_⟩)
    have g4:Gm L H3 (upd H3 l1 (.lst (ps1.map V.ref))):=Go.new g3.lam nl1
    have el1:upd H3 l1 (.lst (ps1.map V.ref)) l1=some (.lst (ps1.map V.ref)):=ae
    generalize upd H3 l1 (.lst (ps1.map V.ref))=H4 at g4 el1
    have g04:=g3.trans g4
    dsimp only [aK]
    refine⟨_,rfl,_,rfl,p,dx,_,rfl,hoG g04,bU a ‹0› ‹0› ‹0› ‹0› ‹0›,_,rfl,_,rfl,p,a,F,B,k,_,u,rfl,(bkG g04).toT,hkm,hu2,hv2,λl2 ps2 rs2 nl2 hp2 td2 i42 dy2=>?_⟩
    have g5:Gm L H4 (upd H4 l2 (.lst (ps2.map V.ref))):=Go.new g04.lam nl2
    have el2:upd H4 l2 (.lst (ps2.map V.ref)) l2=some (.lst (ps2.map V.ref)):=ae
    generalize upd H4 l2 (.lst (ps2.map V.ref))=H5 at g5 el2
    have g05:=g04.trans g5
    have r1:bu H5 l1 rs1:=⟨ps1,g5.lst g04.lam el1,c8 hp1 λ_ _ e=>g5.tup g04.lam (g4.tup g3.lam e)⟩
    have r2:bu H5 l2 rs2:=⟨ps2,el2,c8 hp2 λ_ _ e=>g5.tup g04.lam e⟩
    refine⟨l1,l2,0,399,rs1,rs2,rfl,g05.lam,r1,r2,td1.up.disj,td2.up.disj,gW td1.up i41,gW td2.up i42,by decide,λdl acc H6 ndl g6 hacc FU hal=>?_⟩
    rw [sV dy1 dy2]at FU
    have g06:=g05.trans g6
    obtain⟨qs,eq,hq6⟩:=hacc
    have g36:Gm L H3 H6:=g4.trans (g5.trans g6)
    have ek6:=g36.lst g3.lam ek3
    have hbs6:=g36.boxL g3.lam hbs
    have ndl0:H dl=none:=Gm.free g05 ndl
    obtain⟨pL6,hL6⟩:=g06.lam.tbl
    have dlL:dl≠L:=aD eq hL6 (by intro z;cases z)
    obtain⟨as6,hst6,_⟩:=id hbs6
    have dlb:dl≠bl:=λz=>by
     have:=(g4.trans g5).lst g3.lam hbs.choose_spec.1
     rw [z,this]at ndl;cases ndl
    refine⟨dl,rfl,⟨_,SqL.of eq⟩,bO (K:=K) (a:=dl) (xs:=qs.map V.ref) (λj σ H7=>∃(v6 v7 v8 v9:Option V),σ=[some (.ref p),some v1,some v2,some (.ref bl),some (.str k),some (.ref l1),v6,v7,v8,v9]/\Gm L H H7/\(∀b o,b≠bl->H6 b=some o->b≠L->H7 b=some o)/\dZ H7 bl (bs++((acc.take j).filter neW).map (xG k)))
     ⟨_,_,_,_,rfl,g06,(λb o _ e _=>e),(by rw [List.take_zero,List.filter_nil,List.map_nil,List.append_nil];exact hbs6)⟩ (λj σ H7 _ hh=>?_) ?_ ?_⟩
    ·obtain⟨_,_,_,_,_,_,kp,_⟩:=hh
     exact SqL.of (kp _ _ dlb eq dlL)
    ·rintro j y σ H7 hj ⟨v6',v7',v8',v9',rfl,g7,kp,⟨as,hst,hrs⟩⟩
     rw [List.getElem?_map]at hj
     cases eqq:qs[j]? with
     | none=>rw [eqq]at hj;cases hj
     | some x=>
      rw [eqq]at hj
      cases hj
      obtain⟨r,er,ht0,hmk⟩:=rE hq6 eqq
      have hx:=kp _ _ (aD ht0 hst6 (by intro z;cases z)) ht0 (aD ht0 hL6 (by intro z;cases z))
      refine⟨x,_,rfl,SqT.of hx,rfl,_,_,rfl,_,_,rfl,_,_,rfl,_,_,rfl,rfl,?_⟩
      dsimp only
      refine c4 ?_
      refine⟨_,rfl,_,rfl,eV hmk.1 hmk.2,_,rfl,?_⟩
      have ft:(acc.take (j+1)).filter neW=(acc.take j).filter neW++(if neW r=true then [r] else []):=by
       rw [Strip.take_snoc er,List.filter_append]
       congr 1
       rw [List.filter_cons]
       rfl
      by_cases hne:r.2.2.1=r.2.2.2
      ·have hn:neW r=false:=by unfold neW;rw [decide_eq_true hne];rfl
       rw [decide_eq_true hne]
       refine b9 (bi ⟨_,_,_,_,rfl,g7,kp,?_⟩)
       rw [ft,hn,if_neg (by decide),List.append_nil]
       exact⟨as,hst,hrs⟩
      ·have hn:neW r=true:=by unfold neW;rw [decide_eq_false hne];rfl
       rw [decide_eq_false hne]
       refine bT (cQ ?_)
       refine⟨_,rfl,.inl ⟨rfl,_,SqL.of hst⟩,_,rfl,_,rfl,_,rfl,_,rfl,_,rfl,by show 5<=sizeLine;decide,λp' np=>?_⟩
       obtain⟨y1,y2⟩:=nF (r:=xG k r) hst hrs np ⟨hNk,hmk.1,hmk.2⟩
       have lj:j < acc.length:=(List.getElem?_eq_some_iff.mp er).1
       refine⟨bl,_,_,rfl,rfl,by rw [ag (af hst np)];exact hst,?_,_,_,_,_,rfl,⟨λb o n e=>y2 b o (af e nbl) (g7.same b o n e),g7.lam.row hst np⟩,(λb o nb e nL=>y2 b o nb (kp b o nb e nL)),?_⟩
       ·rw [List.length_map,ie hrs,List.length_append,List.length_map]
        have:=List.length_filter_le neW (acc.take j)
        rw [List.length_take]at this
        exact Nat.lt_of_lt_of_le (show _ < 9000000 by omega) (by decide)
       ·rw [ft,hn,if_pos rfl,List.map_append,<- List.append_assoc]
        exact y1
    ·rintro σ H7 ⟨v6',v7',v8',v9',rfl,g7,kp,hb7⟩
     rw [List.length_map,kM hq6,List.take_length]at hb7
     refine⟨_,_,_,_,_,_,_,rfl,g7,kp _ _ kb ek6 (aD ek6 hL6 (by intro z;cases z)),hb7,?_,?_⟩
     ·rw [Strip.take_snoc ekk]
      exact .snoc hB FU
     ·rw [List.length_append,List.length_map]
      have:=List.length_filter_le neW acc
      omega
  ·rintro σ H3 ⟨bs,v4,v5,v6,v7,v8,v9,rfl,g3,ek3,hbs,hB,hln⟩
   dsimp only
   rw [List.length_map]at hln hB
   rw [List.take_length]at hB
   exact bA ⟨_,rfl,q bl bs H3 nbl g3 hbs hB ‹1›⟩
noncomputable abbrev oH:Stmt:=top 21
noncomputable abbrev oR:Stmt:=top 23
noncomputable def fu (B:Bk):V->V
 | .int n=>(match B.fs[n.toNat]? with
  | some f=>.int f.2.2.2.1
  | none=>.non)
 | _=>.non
def Spk (B:Bk) (v:V):Prop:=v=.non\/∃(n:Nat) (f:Fnd),v=.int (n:Int)/\B.fs[n]?=some f
noncomputable def lL (C:Addr):Sp:=λvs H Q _=>∃(p:Addr) (a:BA) (F:Addr->Prop) (B:Bk) (v:V),vs=[.ref p,v]/\BkAt C H p a F B/\Spk B v/\∀H',aq H H'->Q (fu B v) H'
def OnB (l b:aO):Prop:=l.1=b.1/\l.2.2.1+1=b.2.1/\l.2.2.2=b.2.2.2
noncomputable def qk:Sp:=λvs H Q _=>∃(x y:Addr) (l b:aO),vs=[.ref x,.ref y]/\H x=some (.tup (cn l))/\H y=some (.tup (cn b))/\fj l/\fj b/\∀(k:Bool) (H':Hp),aq H H'->(k=true↔OnB l b)->Q (.bl k) H'
theorem lh {x y x' y':V} (h1:bF x) (h2:bF y) (h1':bF x') (h2':bF y') (e:PySem.W.Dat.tuple [eR x,eR y]=.tuple [eR x',eR y']):(x,y)=(x',y'):=by
 have e1:=PySem.W.Dat.tuple.inj e
 have a:=(List.cons.inj e1).1
 have b:=(List.cons.inj (List.cons.inj e1).2).1
 rw [o6 h1 h1' a,o6 h2 h2' b]
theorem wv:FnScope ["book", "number"] ["book", "number"] (al oH):=‹2›
theorem uK {f f1 C:Addr}{fd:FuncData} (F:Fun K "value_of" "value_of" oH f fd){fd1:FuncData} (MO:MC P w K mg base C "found" 3 ["self", "number"] [] [] (ql C) f1 fd1):FnOk P w K mg base CX0 4 f fd ["book", "number"] (lL C):=by
 refine F.ok (k:=3) wv (λvs H Q E h=>?_) (λcdv A outer s H vs Q E hr h=>?_)
 ·obtain⟨p,a,F,B,v,rfl,_⟩:=h
  rfl
 ·obtain⟨p,a,F,B,v,rfl,h,hv,q⟩:=h
  have hu:=aS hr
  refine⟨_,(aj (az (uw (eX (iw (pv 1))) gC (aH bf (bQ (pv 0) MO.cl MO.mt MO.ok (hr.mono (by decide)) MO.bd MO.dv ao (aa (pv 1) ad)) ai (λ_ _=>rfl))))),?_⟩
  obtain⟨dx,ho⟩:=h.ob
  rcases hv with rfl | ⟨n,f,rfl,hf⟩
  ·exact bA ⟨_,rfl,_,rfl,bT (q H aq.refl)⟩
  ·refine bA ⟨_,rfl,_,rfl,b9 ⟨_,rfl,p,dx,_,rfl,ho,bU a ‹0› ‹0› ‹0› ‹0› ‹0›,_,rfl,p,a,F,B,n,f,rfl,h,hf,λq1 H1 g1 e1=>⟨q1,_,3,V.int f.2.2.2.1,rfl,rfl,SqT.of e1,rfl,?_⟩⟩⟩
   have:=q H1 g1
   have ev:fu B (.int (n:Int))=.int f.2.2.2.1:=by
    show (match B.fs[((n:Int)).toNat]? with | some f=>V.int f.2.2.2.1 | none=>.non)=_
    rw [Int.toNat_natCast,hf]
   rw [ev]at this
   exact this
theorem wC:FnScope ["box", "behind"] ["box", "behind"] (al oR):=‹2›
theorem uV {f:Addr}{fd:FuncData} (F:Fun K "goes_on" "goes_on" oR f fd)  : FnOk P w K mg base CX0 1 f fd ["box", "behind"] qk:=by
 refine F.ok (k:=0) wC (λvs H Q E h=>?_) (λcdv A outer s H vs Q E hr h=>?_)
 ·obtain⟨x,y,l,b,rfl,_⟩:=h
  rfl
 ·obtain⟨x,y,l,b,rfl,hx,hy,ml,mb,q⟩:=h
  have hu:=aS hr
  refine⟨_,(aj (az (da (cS dB (aH bf (pv 0) ai (λ_ _=>rfl)) (aH bf (pv 1) ai (λ_ _=>rfl)) (aN _)) (da (cS dB (aE bB (aH bf (pv 0) ai (λ_ _=>rfl)) ai) (aH bf (pv 1) ai (λ_ _=>rfl)) (aN _)) (eJ (cS (jB hr.units) (cq ir (pv 0) (cw ai) dF) (cq ir (pv 1) (cw ai) dF) (aN _))))))),?_⟩
  refine bA (gZ ?_)
  refine⟨_,rfl,x,_,0,V.str l.1,rfl,rfl,SqT.of hx,rfl,_,rfl,y,_,0,V.str b.1,rfl,rfl,SqT.of hy,rfl,rfl,_,rfl,?_⟩
  by_cases c1:l.1=b.1
  ·rw [decide_eq_true (show V.str l.1=V.str b.1 by rw [c1])]
   refine bT (gZ ?_)
   refine⟨_,rfl,x,_,2,V.int l.2.2.1,rfl,rfl,SqT.of hx,rfl,_,_,rfl,rfl,_,rfl,y,_,1,V.int b.2.1,rfl,rfl,SqT.of hy,rfl,rfl,_,rfl,?_⟩
   by_cases c2:l.2.2.1+1=b.2.1
   ·rw [decide_eq_true (show V.int (l.2.2.1+1)=V.int b.2.1 by rw [c2])]
    refine bT ?_
    refine⟨_,rfl,3,rfl,x,_,rfl,SqT.of hx,(by show ¬(HT.sIx 5 0 (some 3)=0/\HT.sIx 5 5 none=5);decide),λp1 n1=>?_⟩
    have g1:aq H (upd H p1 (.tup (cutV (cn l) (some 3) none))):=aq.new n1
    have e1:upd H p1 (.tup (cutV (cn l) (some 3) none)) p1=some (.tup [l.2.2.2.1,l.2.2.2.2]):=ae
    generalize upd H p1 (.tup (cutV (cn l) (some 3) none))=H1 at g1 e1
    refine⟨_,rfl,3,rfl,y,_,rfl,SqT.of (g1 _ _ hy),(by show ¬(HT.sIx 5 0 (some 3)=0/\HT.sIx 5 5 none=5);decide),λp2 n2=>?_⟩
    have g2:aq H1 (upd H1 p2 (.tup (cutV (cn b) (some 3) none))):=aq.new n2
    have e2:upd H1 p2 (.tup (cutV (cn b) (some 3) none)) p2=some (.tup [b.2.2.2.1,b.2.2.2.2]):=ae
    generalize upd H1 p2 (.tup (cutV (cn b) (some 3) none))=H2 at g2 e2
    have k9:∀{u v:V},bF u->bF v->PySem.W.kqdOk 9 (.tuple [eR u,eR v])=true:=λhu hv=>by
     show ([eR _,eR _].all (PySem.W.kqdOk 8))=true
     rw [List.all_cons,List.all_cons,fW 8 hu,fW 8 hv];rfl
    by_cases c3:l.2.2.2=b.2.2.2
    ·exact⟨_,_,.tup (g2 _ _ e1) (.cons (bJ ml.2.1) (.cons (bJ ml.2.2) .nil)),.tup e2 (.cons (bJ mb.2.1) (.cons (bJ mb.2.2) .nil)),k9 ml.2.1 ml.2.2,k9 mb.2.1 mb.2.2,true,⟨λ_=>by rw [c3],λ_=>rfl⟩,q true H2 (g1.trans g2) ⟨λ_=>⟨c1,c2,c3⟩,λ_=>rfl⟩⟩
    ·exact⟨_,_,.tup (g2 _ _ e1) (.cons (bJ ml.2.1) (.cons (bJ ml.2.2) .nil)),.tup e2 (.cons (bJ mb.2.1) (.cons (bJ mb.2.2) .nil)),k9 ml.2.1 ml.2.2,k9 mb.2.1 mb.2.2,false,⟨(λz=>by cases z),λz=>absurd (lh ml.2.1 ml.2.2 mb.2.1 mb.2.2 z) c3⟩,q false H2 (g1.trans g2) ⟨(λz=>by cases z),λz=>absurd z.2.2 c3⟩⟩
   ·rw [decide_eq_false (λz=>c2 (V.int.inj z))]
    exact b9 (q false H aq.refl ⟨(λz=>by cases z),λz=>absurd z.2.1 c2⟩)
  ·rw [decide_eq_false (λz=>c1 (V.str.inj z))]
   exact b9 (q false H aq.refl ⟨(λz=>by cases z),λz=>absurd z.1 c1⟩)
noncomputable abbrev u6:Stmt:=top 22
noncomputable instance (l b:aO):Decidable (OnB l b):=inferInstanceAs (Decidable (_/\_/\_))
noncomputable def eO (bs:List aO) (b:aO):List aO:=match bs.getLast? with
 | some l=>if OnB l b then bs.dropLast++[(l.1,l.2.1,b.2.2.1,b.2.2.2)] else bs++[b]
 | none=>bs++[b]
theorem h7 {bs:List aO}{l b:aO} (h:OnB l b):eO (bs++[l]) b=bs++[(l.1,l.2.1,b.2.2.1,b.2.2.2)]:=by
 unfold eO
 rw [List.getLast?_concat,List.dropLast_concat]
 exact if_pos h
theorem fJ {bs:List aO}{l b:aO} (h:¬OnB l b):eO (bs++[l]) b=bs++[l]++[b]:=by
 unfold eO
 rw [List.getLast?_concat]
 exact if_neg h
theorem nE (bs:List aO) (b:aO):(eO bs b).length<=bs.length+1:=by
 rcases List.eq_nil_or_concat bs with e | ⟨i,l,e⟩
 ·rw [e];exact Nat.le_refl _
 ·rw [List.concat_eq_append]at e
  rw [e]
  by_cases h:OnB l b
  ·rw [h7 h];simp
  ·rw [fJ h];simp
theorem fY {H:Hp}{l:aO}:∀{bs:List aO}{ps:List Addr},iI H ps (bs++[l])->∃qs pl,ps=qs++[pl]/\iI H qs bs/\H pl=some (.tup (cn l))/\fj l
 | [],_,.cons a .nil=>⟨[],_,rfl,.nil,a.1,a.2⟩
 | _::bs,_,.cons a t=>by
  obtain⟨qs,pl,e,h1,h2,h3⟩:=fY (bs:=bs) t
  exact⟨_::qs,pl,by rw [e];rfl,.cons a h1,h2,h3⟩
theorem mQ {H:Hp}{st p pl:Addr}{qs:List Addr}{acc:List aO}{r:aO} (hst:H st=some (.lst ((qs++[pl]).map V.ref))) (hrs:iI H qs acc) (np:H p=none) (hm:fj r) :
  dZ (upd (upd H p (.tup (cn r))) st (.lst (((qs++[pl]).map V.ref).set qs.length (V.ref p)))) st (acc++[r])/\∀b o,b≠st->H b=some o->upd (upd H p (.tup (cn r))) st (.lst (((qs++[pl]).map V.ref).set qs.length (V.ref p))) b=some o:=by
 have ps:p≠st:=λz=>by rw [z,hst]at np;cases np
 have keep:∀b o,b≠st->H b=some o->upd (upd H p (.tup (cn r))) st (.lst (((qs++[pl]).map V.ref).set qs.length (V.ref p))) b=some o:=λb o n e=>by
  rw [ag n,ag (af e np)];exact e
 refine⟨⟨qs++[p],?_,fX ?_ hm (cL hrs λb xs e=>keep b _ (aD e hst (by intro z;cases z)) e)⟩,keep⟩
 ·rw [ae,List.map_append,List.map_append,List.set_append]
  simp
 ·rw [ag ps,ae]
noncomputable def oB:Sp:=λvs H Q _=>∃(bl y:Addr) (bs:List aO) (b:aO),vs=[.ref bl,.ref y]/\dZ H bl bs/\H y=some (.tup (cn b))/\fj b/\bs.length < 9000000/\∀H':Hp,dZ H' bl (eO bs b)->(∀c o,c≠bl->H c=some o->H' c=some o)->Q .non H'
theorem yv:FnScope ["boxes", "box"] ["boxes", "box"] (al u6):=‹2›
theorem x8 {f f1:Addr}{fd:FuncData} (F:Fun K "put_behind" "put_behind" u6 f fd){fd1:FuncData} (CG:Cal P w K mg base "goes_on_turns" 1 ["box", "behind"] qk f1 fd1):FnOk P w K mg base CX0 2 f fd ["boxes", "box"] oB:=by
 refine F.ok (k:=1) yv (λvs H Q E h=>?_) (λcdv A outer s H vs Q E hr h=>?_)
 ·obtain⟨bl,y,bs,b,rfl,_⟩:=h
  rfl
 ·obtain⟨bl,y,bs,b,rfl,⟨as,hbl,hbs⟩,hy,mb,h9,q⟩:=h
  have hu:=aS hr
  refine⟨_,(aj (aW (PW.pt (dz (nG (pv 0) (λ_=>rfl)) (dC (bL (am CG.ok (hr.mono (by decide)) rfl CG.nm CG.kp CG.bd .nil ao (aa (aH aR (pv 0) (eE cM ai) (λ_ _=>rfl)) (aa (pv 1) ad))))))) (aj (iu (aE qA (cq ir (aH aR (pv 0) (eE cM ai) (λ_ _=>rfl)) dF (cw ai)) (cq ir (pv 1) (cw ai) dF)) (mh (pv 0) (eE cM ai) gT))) (aj (aM (cT PySem.F.plainAttrs_list PySem.F.slot_list_append PySem.F.type_list_append b8 (pv 0) (aa (pv 1) ad)))))),?_⟩
  have hlen:=ie hbs
  have put:∀{H2:Hp},aq H H2->(eO bs b=bs++[b])->_:=λ{H2} g2 ep=>(⟨_,rfl,.inl ⟨rfl,_,SqL.of (g2 _ _ hbl)⟩,_,rfl,bl,_,_,rfl,rfl,g2 _ _ hbl,by rw [List.length_map,hlen];exact Nat.lt_of_lt_of_le h9 (by decide),by
   have yb:y≠bl:=aD hy hbl (by intro z;cases z)
   refine q _ ⟨as++[y],?_,?_⟩ λc o nc e=>by rw [ag nc];exact g2 _ _ e
   ·rw [ae,List.map_append];rfl
   ·rw [ep]
    refine fX (by rw [ag yb];exact g2 _ _ hy) mb (cL hbs λc xs e=>?_)
    rw [ag (aD e hbl (by intro z;cases z))]
    exact g2 _ _ e⟩:tBM K "list" md (eG 0) (cW (eG 1) gx) [some (.ref bl),some (.ref y)] H2 λ_ H3=>Q .non H3)
  refine c4 ?_
  rcases List.eq_nil_or_concat bs with e | ⟨ini,l,e⟩
  ·subst e
   have e0:as=[]:=List.eq_nil_of_length_eq_zero hlen
   subst e0
   exact⟨_,rfl,false,.inl ⟨[],SqL.of hbl,rfl⟩,b9 (b9 (cQ (put aq.refl rfl)))⟩
  ·rw [List.concat_eq_append]at e
   subst e
   obtain⟨qs,pl,rfl,hq,hpl,ml⟩:=fY hbs
   have elm:(qs++[pl]).map V.ref=qs.map V.ref++[V.ref pl]:=by rw [List.map_append];rfl
   have at1:atI ((qs++[pl]).map V.ref) (-1)=some (V.ref pl):=by rw [elm];exact fQ _ _
   refine⟨_,rfl,true,.inl ⟨_,SqL.of hbl,by rw [elm];simp⟩,bT ?_⟩
   refine⟨_,rfl,1,rfl,bl,_,-1,V.ref pl,rfl,rfl,SqL.of hbl,at1,_,rfl,pl,y,l,b,rfl,hpl,hy,ml,mb,λk H1 g1 hk=>⟨_,rfl,?_⟩⟩
   cases k with
   | false=>
    have hn:¬OnB l b:=λz=>Bool.noConfusion (hk.mpr z)
    exact b9 (cQ (put g1 (fJ hn)))
   | true=>
    have hon:=hk.mp rfl
    refine bT (aI ?_)
    have hpl1:=g1 _ _ hpl
    refine⟨_,rfl,1,rfl,bl,_,-1,V.ref pl,rfl,rfl,SqL.of (g1 _ _ hbl),at1,2,rfl,pl,_,rfl,SqT.of hpl1,(by show ¬(HT.sIx 5 0 none=0/\HT.sIx 5 5 (some 2)=5);decide),λp1 n1=>?_⟩
    have g2:aq H1 (upd H1 p1 (.tup (cutV (cn l) none (some 2)))):=aq.new n1
    have e2:upd H1 p1 (.tup (cutV (cn l) none (some 2))) p1=some (.tup [.str l.1,.int l.2.1]):=ae
    generalize upd H1 p1 (.tup (cutV (cn l) none (some 2)))=H2 at g2 e2
    refine⟨_,rfl,2,rfl,y,_,rfl,SqT.of (g2 _ _ (g1 _ _ hy)),(by show ¬(HT.sIx 5 0 (some 2)=0/\HT.sIx 5 5 none=5);decide),λp2 n2=>?_⟩
    have g3:aq H2 (upd H2 p2 (.tup (cutV (cn b) (some 2) none))):=aq.new n2
    have e3:upd H2 p2 (.tup (cutV (cn b) (some 2) none)) p2=some (.tup [.int b.2.2.1,b.2.2.2.1,b.2.2.2.2]):=ae
    generalize upd H2 p2 (.tup (cutV (cn b) (some 2) none))=H3 at g3 e3
    refine⟨p1,p2,_,_,rfl,rfl,SqT.of (g3 _ _ e2),SqT.of e3,(by intro z;cases z),by show 5<=sizeLine;decide,(by intro z;cases z),λ_ p3 n3=>?_⟩
    have g03:=(g1.trans g2).trans g3
    have hbl3:=g03 _ _ hbl
    obtain⟨y1,y2⟩:=mQ (r:=(l.1,l.2.1,b.2.2.1,b.2.2.2)) hbl3 (cL hq λc xs e=>g03 _ _ e) n3 ⟨ml.1,mb.2.1,mb.2.2⟩
    refine⟨_,rfl,1,rfl,bl,_,-1,qs.length,rfl,rfl,by rw [ag (af hbl3 n3)];exact hbl3,by rw [List.length_map,List.length_append];exact jN _,?_⟩
    refine q _ ?_ λc o nc e=>y2 c o nc (g03 _ _ e)
    rw [h7 hon]
    exact y1
noncomputable abbrev qu:Stmt:=top 20
noncomputable def iK (B:Bk) (b:aO):aO:=(b.1,b.2.1,b.2.2.1,fu B b.2.2.2.1,fu B b.2.2.2.2)
noncomputable def dk (B:Bk) (bs:List aO):List aO:=bs.foldl (λacc b=>if fu B b.2.2.2.1=fu B b.2.2.2.2 then acc else eO acc (iK B b)) []
theorem og (B:Bk) (bs:List aO) (b:aO):dk B (bs++[b])=if fu B b.2.2.2.1=fu B b.2.2.2.2 then dk B bs else eO (dk B bs) (iK B b):=by
 unfold dk
 rw [List.foldl_append]
 rfl
theorem fR (B:Bk):∀v:V,bF (fu B v)
 | .int n=>by
  show bF (match B.fs[n.toNat]? with | some f=>V.int f.2.2.2.1 | none=>.non)
  split <;> trivial
 | .non=>trivial
 | .bl _=>trivial
 | .str _=>trivial
 | .byt _=>trivial
 | .ref _=>trivial
 | .ty _=>trivial
 | .flt _=>trivial
theorem lJ (B:Bk) (k:Str) (t n:Int):Spk B (((B.spk k t n).map V.int).getD .non):=by
 cases e:B.spk k t n with
 | none=>exact .inl rfl
 | some m=>
  obtain⟨j,f,e1,_,e2,_⟩:=jL e
  subst e1
  exact .inr ⟨j,f,rfl,e2⟩
theorem sI {B:Bk}{t u:Nat}{ks:List Str}{bs:List aO} (h:Boxes B t u ks bs):∀b∈bs,Spk B b.2.2.2.1/\Spk B b.2.2.2.2:=by
 induction h with
 | nil=>exact λ_ h=>nomatch h
 | @snoc ks k bs acc _ FU ih=>
  intro b hb
  rcases List.mem_append.mp hb with hb | hb
  ·exact ih b hb
  ·obtain⟨r,hr,rfl⟩:=List.mem_map.mp hb
   have hr':=(List.mem_filter.mp hr).1
   obtain⟨_,_,hg⟩:=FU.row hr'
   have:=hg r.1 ⟨Int.le_refl _,FU.tidy.up.le r hr'⟩
   show Spk B r.2.2.1/\Spk B r.2.2.2
   rw [<- this]
   exact⟨lJ B k t r.1,lJ B k u r.1⟩
noncomputable def tw (C L:Addr):Sp:=λvs H Q _=>∃(p:Addr) (a:BA) (F:Addr->Prop) (B:Bk) (v1 v2:V) (t u:Nat),vs=[.ref p,v1,v2]/\Lm L H/\BkAt C H p a F B/\(∀b,F b->b≠L)/\Turn B v1 t/\Turn B v2 u/\
 ∀(d:Addr) (bs:List aO) (H':Hp),H d=none->Gm L H H'->dZ H' d (dk B bs)->Boxes B t u B.ks bs->Q (.ref d) H'
theorem cb:FnScope ["book", "one", "other", "boxes", "key", "first", "last", "speaker", "beside", "value", "value_beside"] ["book", "one", "other"] (al qu):=‹2›
theorem wW {f f1 f2 f3 C L:Addr}{fd:FuncData} (F:Fun K "unlike_values" "unlike_values" qu f fd){fd1:FuncData} (CU:Cal P w K mg base "unlike" 7 ["book", "one", "other"] (ji C L) f1 fd1){fd2:FuncData} (CV:Cal P w K mg base "value_of" 4 ["book", "number"] (lL C) f2 fd2){fd3:FuncData} (CP:Cal P w K mg base "put_behind" 2 ["boxes", "box"] oB f3 fd3):FnOk P w K mg base CX0 8 f fd ["book", "one", "other"] (tw C L):=by
 refine F.ok (k:=7) cb (λvs H Q E h=>?_) (λcdv A outer s H vs Q E hr h=>?_)
 ·obtain⟨p,a,F,B,v1,v2,t,u,rfl,_⟩:=h
  rfl
 ·obtain⟨p,a,F,B,v1,v2,t,u,rfl,LL,h,hF,T1,T2,q⟩:=h
  have hu:=aS hr
  refine⟨_,(ah (aB (i:=3) cb.nd rfl (Or.inl rfl) (be ad))
   (ah (bP PassesOwn.never rfl (bC (am CU.ok (hr.mono (by decide)) rfl CU.nm CU.kp CU.bd .nil ao (aa (pv 0) (aa (pv 1) (aa (pv 2) ad))))) (cR rfl (aA (ay (i:=4) cb.nd rfl (Or.inl rfl)) (aA (ay (i:=5) cb.nd rfl (Or.inl rfl)) (aA (ay (i:=6) cb.nd rfl (Or.inl rfl)) (aA (ay (i:=7) cb.nd rfl (Or.inl rfl)) (aA (ay (i:=8) cb.nd rfl (Or.inl rfl)) cg))))))
   (ah (aB (i:=9) cb.nd rfl (Or.inl rfl) (am CV.ok (hr.mono (by decide)) rfl CV.nm CV.kp CV.bd .nil ao (aa (pv 0) (aa (pv 7) ad))))
   (ah (aB (i:=10) cb.nd rfl (Or.inl rfl) (am CV.ok (hr.mono (by decide)) rfl CV.nm CV.kp CV.bd .nil ao (aa (pv 0) (aa (pv 8) ad))))
   (aj (aW (aQ qy (pv 9) (pv 10) (aN _)) (aj (aM (am CP.ok (hr.mono (by decide)) rfl CP.nm CP.kp CP.bd .nil ao (aa (pv 3) (aa (bz (aa (pv 4) (aa (pv 5) (aa (pv 6) (aa (pv 9) (aa (pv 10) ad)))))) ad))))) aF)))))
   (aj (az (pv 3))))),?_⟩
  obtain⟨pL,hL⟩:=LL.tbl
  have bkG:∀{H2:Hp},Gm L H H2->BkAt C H2 p a F B:=λg=>h.keep ⟨λb o f e=>g.same b o (hF b f) e,λb xs e=>g.tup LL e,λb c dx fs e=>g.same b _ (aD e hL (by intro z;cases z)) e⟩
  have gG:∀{H2 H3:Hp},Gm L H H2->aq H2 H3->Gm L H H3:=λg w=>⟨λb o n e=>w _ _ (g.same b o n e),bE g.lam λb o e _ _=>w _ _ e⟩
  refine au (aI ⟨Nat.zero_le _,λbl nbl=>?_⟩)
  have g1:Gm L H (upd H bl (.lst [])):=Go.new LL nbl
  have e1:upd H bl (.lst []) bl=some (.lst []):=ae
  generalize upd H bl (.lst [])=H1 at g1 e1
  dsimp only [aK]
  refine au ?_
  refine⟨_,rfl,_,rfl,_,rfl,p,a,F,B,v1,v2,t,u,rfl,g1.lam,bkG g1,hF,T1,T2,λdl bs H2 ndl g2 hbs hB hl6=>?_⟩
  obtain⟨qs,eq,hq⟩:=hbs
  have g02:=g1.trans g2
  have e2:=g2.lst g1.lam e1
  have dlb:dl≠bl:=λz=>by rw [z,e1]at ndl;cases ndl
  have hsp:=sI hB
  have hlq:=ie hq
  refine⟨dl,rfl,⟨_,SqL.of eq⟩,bO (K:=K) (a:=dl) (xs:=qs.map V.ref) (λi σ H3=>∃(v4 v5 v6 v7 v8 v9 v10:Option V),σ=[some (.ref p),some v1,some v2,some (.ref bl),v4,v5,v6,v7,v8,v9,v10]/\Gm L H H3/\(∀c o,c≠bl->H2 c=some o->H3 c=some o)/\dZ H3 bl (dk B (bs.take i))/\(dk B (bs.take i)).length<=i)
   ⟨none,none,none,none,none,none,none,rfl,g02,(λc o _ e=>e),⟨[],e2,(by rw [List.take_zero];exact .nil)⟩,(by rw [List.take_zero];exact Nat.le_refl _)⟩ (λi σ H3 _ hh=>?_) ?_ ?_⟩
  ·obtain⟨_,_,_,_,_,_,_,_,_,kp,_⟩:=hh
   exact SqL.of (kp _ _ dlb eq)
  ·rintro i y σ H3 hi ⟨v4,v5,v6,v7,v8,v9,v10,rfl,g3,kp,hbx,hln⟩
   rw [List.getElem?_map]at hi
   cases eqq:qs[i]? with
   | none=>rw [eqq]at hi;cases hi
   | some x=>
    rw [eqq]at hi
    cases hi
    obtain⟨b,eb,hx2,mb⟩:=o8 hq eqq
    have hx:=kp _ _ (aD hx2 e2 (by intro z;cases z)) hx2
    have hib:=(List.getElem?_eq_some_iff.mp eb).1
    obtain⟨s1,s2⟩:=hsp b (List.mem_of_getElem? eb)
    have et:dk B (bs.take (i+1))=if fu B b.2.2.2.1=fu B b.2.2.2.2 then dk B (bs.take i) else eO (dk B (bs.take i)) (iK B b):=by
     rw [<- og,List.take_add_one,eb];rfl
    refine⟨x,_,rfl,SqT.of hx,rfl,_,_,rfl,_,_,rfl,_,_,rfl,_,_,rfl,_,_,rfl,rfl,?_⟩
    dsimp only
    refine au (aI ⟨_,rfl,_,rfl,p,a,F,B,_,rfl,bkG g3,s1,λH4 g4=>?_⟩)
    have g04:=gG g3 g4
    dsimp only [aK]
    refine au (aI ⟨_,rfl,_,rfl,p,a,F,B,_,rfl,bkG g04,s2,λH5 g5=>?_⟩)
    have g05:=gG g04 g5
    have g35:=g4.trans g5
    dsimp only [aK]
    have m1:=fR B b.2.2.2.1
    have m2:=fR B b.2.2.2.2
    have hb5:dZ H5 bl (dk B (bs.take i)):=eS hbx (λxs e=>g35 _ _ e) λc xs e=>g35 _ _ e
    refine c4 ?_
    refine⟨_,rfl,_,rfl,eV m1 m2,_,rfl,?_⟩
    by_cases c:fu B b.2.2.2.1=fu B b.2.2.2.2
    ·rw [decide_eq_true c]
     rw [if_pos c]at et
     refine b9 (bi ⟨_,_,_,_,_,_,_,rfl,g05,(λc o nc e=>g35 _ _ (kp c o nc e)),?_,?_⟩)
     ·rw [et];exact hb5
     ·rw [et];omega
    ·rw [decide_eq_false c]
     rw [if_neg c]at et
     refine bT (cQ ?_)
     refine⟨_,rfl,_,rfl,_,rfl,_,rfl,_,rfl,_,rfl,by show 5<=sizeLine;decide,λp' np=>?_⟩
     have g6:aq H5 (upd H5 p' (.tup (cn (iK B b)))):=aq.new np
     have e6:upd H5 p' (.tup (cn (iK B b))) p'=some (.tup (cn (iK B b))):=ae
     refine⟨bl,p',dk B (bs.take i),iK B b,rfl,eS hb5 (λxs e=>g6 _ _ e) λc xs e=>g6 _ _ e,e6,⟨mb.1,m1,m2⟩,by omega,λH7 hb7 k7=>?_⟩
     obtain⟨as5,eb5,_⟩:=hb5
     have g56:=g35.trans g6
     refine⟨_,_,_,_,_,_,_,rfl,⟨λc o n e=>k7 c o (af e nbl) (g6 _ _ (g05.same c o n e)),?_⟩,(λc o nc e=>k7 c o nc (g56 _ _ (kp c o nc e))),?_,?_⟩
     ·refine bE g05.lam λc o e n1 n2=>k7 c o (λz=>?_) (g6 _ _ e)
      rw [z,eb5]at e
      exact n1 _ (Option.some.inj e).symm
     ·rw [et];exact hb7
     ·rw [et]
      have:=nE (dk B (bs.take i)) (iK B b)
      omega
  ·rintro σ H3 ⟨v4,v5,v6,v7,v8,v9,v10,rfl,g3,kp,hbx,hln⟩
   dsimp only
   rw [List.length_map,hlq,List.take_length]at hbx
   exact bA ⟨_,rfl,q bl bs H3 nbl g3 hbx hB⟩
noncomputable abbrev ua:Stmt:=ca (top 39) 0
theorem jb {C:Addr}{H:Hp}{x n dx:Addr}{o:HO}{fs fs':List (Str × V)} (hx:H x=some (.ins C dx fs)) (nn:H n=none) :
  upd H n o x=some (.ins C dx fs)/\upd (upd H n o) x (.ins C dx fs') x=some (.ins C dx fs')/\upd (upd H n o) x (.ins C dx fs') n=some o/\∀b u,H b=some u->b≠x->upd (upd H n o) x (.ins C dx fs') b=some u:=by
 have nx:x≠n:=af hx nn
 refine⟨by rw [ag nx];exact hx,ae,by rw [ag (Ne.symm nx),ae],λb u e h=>?_⟩
 rw [ag h,ag (af e nn)]
 exact e
theorem mN {K:W.Frag}{σ:St}{H:Hp}{Q:VK}{a:Addr}{ks:List Str} (e0:σ[1]?=some (some (.ref a))) (ha:H a=some (.lst (ks.map V.str))) (hl:ks.length<=8)
  (hq:∀(D:Addr) (H':Hp) (ps:List Addr) (kvs:List (Key × V)),H D=none->aq H H'->H' D=some (.lst (ps.map V.ref))->Paired (λp (kv:Key × V)=>H' p=some (.tup [kV kv.1,kv.2])) ps kvs->kvs.map (·.1)=ks.map Sum.inr->(∀kv∈kvs,∃l,kv.2=.ref l/\H' l=some (.lst [])/\H l=none/\l≠D)->Q (.ref D) H') :
  jf (vo K (eG 1)) [] (λ_ H Q=>Q true H) (yi (cW (eG 0) (cW (t5 gx) gx))) σ H Q:=by
 refine⟨_,e0,a,rfl,⟨_,SqL.of ha⟩,λD nD=>iD (K:=K) (a:=a) (xs:=ks.map V.str) (sub:=[]) (tt:=λ_ H Q=>Q true H) (te:=yi (cW (eG 0) (cW (t5 gx) gx))) (Q:=Q) (σ:=σ)
  (λi ys H2=>∃(ps:List Addr) (kvs:List (Key × V)),ys=ps.map V.ref/\aq H H2/\H2 D=some (.lst ys)/\Paired (λp (kv:Key × V)=>H2 p=some (.tup [kV kv.1,kv.2])) ps kvs/\kvs.map (·.1)=(ks.take i).map Sum.inr/\(∀kv∈kvs,∃l,kv.2=.ref l/\H2 l=some (.lst [])/\H l=none/\l≠D))
  ⟨[],[],rfl,aq.new nD,ae,.nil,rfl,(λ_ h=>nomatch h)⟩ (λi ys H2 _ hh=>?_) (λi x ys H2 hi hh=>?_) λys H2 hh=>?_⟩
 ·obtain⟨_,_,_,g,_⟩:=hh
  exact SqL.of (g _ _ ha)
 ·obtain⟨ps,kvs,rfl,g,hD,pk,km,kl⟩:=hh
  rw [List.getElem?_map]at hi
  cases ek:ks[i]? with
  | none=>rw [ek]at hi;cases hi
  | some k=>
   rw [ek]at hi
   cases hi
   have hil:=(List.getElem?_eq_some_iff.mp ek).1
   refine bT ⟨_,rfl,Nat.zero_le _,λl nl=>⟨by show 2<=sizeLine;decide,λt nt=>?_⟩⟩
   have lD:l≠D:=λz=>by rw [z,hD]at nl;cases nl
   have tl:t≠l:=λz=>by rw [z,ae]at nt;cases nt
   have nt2:H2 t=none:=by rw [ag tl]at nt;exact nt
   have tD:t≠D:=λz=>by rw [z,hD]at nt2;cases nt2
   have st:∀b o,H2 b=some o->b≠D->upd (upd (upd H2 l (.lst [])) t (.tup [.str k,.ref l])) D (.lst (ps.map V.ref++[V.ref t])) b=some o:=λb o e n=>by
    rw [ag n,ag (af e nt2),ag (af e nl)];exact e
   have hps:ps.length<=8:=by
    have h1:ps.length=kvs.length:=Paired.length pk
    have h2:=congrArg List.length km
    rw [List.length_map,List.length_map,List.length_take]at h2
    omega
   refine⟨by rw [ag (Ne.symm tD),ag (Ne.symm lD)];exact hD,by rw [List.length_map];exact bo ‹1›,ps++[t],kvs++[(Sum.inr k,.ref l)],by rw [List.map_append];rfl,λb o e=>st b o (g _ _ e) (af e nD),by rw [ae],?_,?_,λkv hkv=>?_⟩
   ·refine cr (Paired.mapP pk λp kv e=>st p _ e (aD e hD (by intro z;cases z))) ?_
    rw [ag tD,ae];rfl
   ·rw [List.map_append,km,List.take_add_one,ek,List.map_append];rfl
   ·rcases List.mem_append.mp hkv with hkv | hkv
    ·obtain⟨l',e1,e2,e3,e4⟩:=kl kv hkv
     exact⟨l',e1,st _ _ e2 e4,e3,e4⟩
    ·rw [List.mem_singleton.mp hkv]
     refine⟨l,rfl,by rw [ag lD,ag (Ne.symm tl),ae],?_,lD⟩
     cases eh:H l with
     | none=>rfl
     | some o=>rw [g _ _ eh]at nl;cases nl
 ·obtain⟨ps,kvs,rfl,g,hD,pk,km,kl⟩:=hh
  rw [List.length_map,List.take_length]at km
  exact hq D H2 ps kvs nD g hD pk km kl
noncomputable def tG (C:Addr):Sp:=λvs H Q _=>∃(x dx kl:Addr) (ks:List Str),vs=[.ref x,.ref kl]/\H x=some (.ins C dx [])/\H kl=some (.lst (ks.map V.str))/\1<=ks.length/\ks.length<=8/\ks.Nodup/\(∀k∈ks,iT k gI 8=true/\k.length < sizeLine/\Nm k)/\
 ∀(a:BA) (F:Addr->Prop) (H':Hp),(∀b,F b->H b=none)->(∀b o,H b=some o->b≠x->H' b=some o)->BkAt C H' x a F (Bk.new ks)->Q .non H'
theorem vZ {kvs:List (Key × V)}{ks:List Str} (km:kvs.map (·.1)=ks.map Sum.inr){k:Str} (hk:k∈ks) (P:V->Prop) (h:∀kv∈kvs,P kv.2):∃v,valV kvs (Sum.inr k)=some v/\P v:=by
 have:(Sum.inr k:Key)∈kvs.map (·.1):=by rw [km];exact List.mem_map.mpr ⟨k,hk,rfl⟩
 obtain⟨kv,hkv,e⟩:=List.mem_map.mp this
 cases ev:valV kvs (Sum.inr k) with
 | none=>
  have h1:=fq (Sum.inr k:Key) kvs
  rw [ev]at h1
  have:(kvs.any λkv=>decide (kv.1=(Sum.inr k:Key)))=true:=List.any_eq_true.mpr ⟨kv,hkv,decide_eq_true e⟩
  rw [this]at h1;cases h1
 | some v=>
  refine⟨v,rfl,?_⟩
  unfold valV at ev
  obtain⟨p,ep,e2⟩:=Option.map_eq_some_iff.mp ev
  rw [<- e2]
  exact h p (List.mem_of_find?_eq_some ep)
theorem yy:FnScope ["self", "keys"] ["self", "keys"] (al ua):=‹2›
theorem xf {f C f1:Addr}{fd:FuncData} (F:Fun K "__init__" "Book.__init__" ua f fd) (N:Free mg) (T:BkC K C){fd1:FuncData} (CK:Cal P w K mg base "are_keys" 3 ["thing"] kI f1 fd1):FnOk P w K mg base CX0 4 f fd ["self", "keys"] (tG C):=by
 refine F.ok (k:=3) yy (λvs H Q E h=>?_) (λcdv A outer s H vs Q E hr h=>?_)
 ·obtain⟨x,dx,kl,ks,rfl,_⟩:=h
  rfl
 ·obtain⟨x,dx,kl,ks,rfl,hx,hkl,k1,k8,nd,hk,q⟩:=h
  have hu:=aS hr
  refine⟨_,(ah (aW (bV (bL (am CK.ok (hr.mono (by decide)) rfl CK.nm CK.kp CK.bd .nil ao (aa (pv 1) ad)))) (aj cA) aF)
   (ah (jx (pv 0) (cI cU (by rfl) N.list PyProof.Rows.Boot.«list» (aa (pv 1) ad)) rfl)
   (ah (jx (pv 0) (be ad) rfl)
   (ah (jx (pv 0) nK rfl)
   (ah (jx (pv 0) (be ad) rfl)
   (aj (jx (pv 0) (be (aa (cI (pI rfl) (by rfl) N.dict PyProof.Rows.Boot.«dict» (aa (kQ (cH rfl (bC (pv 1)) rfl rfl (by show ∀p∈_,iH [] p;decide) (by decide) rfl (by show ([‹"key"›]:List Str).Nodup;decide) .nil (λC fp s H=>dE) (λC fp s H=>(bz (aa (pv 0) (aa (be ad) ad)))))) ad)) ad)) rfl))))))),?_⟩
  refine⟨_,rfl,kl,ks,rfl,hkl,k1,k8,nd,λk h=>⟨(hk k h).1,(hk k h).2.1⟩,λH0 g0=>⟨_,rfl,b9 ?_⟩⟩
  have hx0:=g0 _ _ hx
  have hk0:=g0 _ _ hkl
  have kx:kl≠x:=aD hkl hx (by intro z;cases z)
  refine⟨_,rfl,kl,_,rfl,.inl (SqL.of hk0),λn nn=>?_⟩
  obtain⟨a0,a1,a2,a3⟩:=jb (fs':=aX "names" (.ref n) []) (o:=.lst (ks.map V.str)) hx0 nn
  refine⟨_,rfl,x,C,dx,_,rfl,a0,T.cl,T.n1,(by show 0 < 1000;decide),?_⟩
  have knx:n≠x:=λz=>by rw [z,hx0]at nn;cases nn
  have k1':=a3 _ _ hk0 kx
  generalize upd (upd H0 n (.lst (ks.map V.str))) x (.ins C dx (aX "names" (.ref n) []))=H1 at a1 a2 a3 k1' ⊢
  refine⟨Nat.zero_le _,λf nf=>?_⟩
  obtain⟨b0,b1,b2,b3⟩:=jb (fs':=aX "findings" (.ref f) (aX "names" (.ref n) [])) (o:=.lst []) a1 nf
  refine⟨_,rfl,x,C,dx,_,rfl,b0,T.cl,T.n2,(by show 1 < 1000;decide),?_⟩
  have kfx:f≠x:=λz=>by rw [z,a1]at nf;cases nf
  have k2':=b3 _ _ k1' kx
  have n2':=b3 _ _ a2 knx
  generalize upd (upd H1 f (.lst [])) x (.ins C dx (aX "findings" (.ref f) (aX "names" (.ref n) [])))=H2 at b1 b2 b3 k2' n2' ⊢
  intro w nw
  obtain⟨c0,c1,c2,c3⟩:=jb (fs':=aX "withdrawals" (.ref w) (aX "findings" (.ref f) (aX "names" (.ref n) []))) (o:=.dK []) b1 nw
  refine⟨_,rfl,x,C,dx,_,rfl,c0,T.cl,T.n3,?_,?_⟩
  ·have h1:=bD "findings" (V.ref f) (aX "names" (V.ref n) []);have h2:=bD "names" (V.ref n) [];simp only [List.length_nil]at h2;omega
  have kwx:w≠x:=λz=>by rw [z,b1]at nw;cases nw
  have k3':=c3 _ _ k2' kx
  have n3':=c3 _ _ n2' knx
  have f3':=c3 _ _ b2 kfx
  generalize upd (upd H2 w (.dK [])) x (.ins C dx (aX "withdrawals" (.ref w) (aX "findings" (.ref f) (aX "names" (.ref n) []))))=H3 at c1 c2 c3 k3' n3' f3' ⊢
  refine⟨Nat.zero_le _,λd nd'=>?_⟩
  obtain⟨d0,d1,d2,d3⟩:=jb (fs':=aX "deeds" (.ref d) (aX "withdrawals" (.ref w) (aX "findings" (.ref f) (aX "names" (.ref n) [])))) (o:=.lst []) c1 nd'
  refine⟨_,rfl,x,C,dx,_,rfl,d0,T.cl,T.n4,?_,?_⟩
  ·have h0:=bD "withdrawals" (V.ref w) (aX "findings" (V.ref f) (aX "names" (V.ref n) []));have h1:=bD "findings" (V.ref f) (aX "names" (V.ref n) []);have h2:=bD "names" (V.ref n) [];simp only [List.length_nil]at h2;omega
  have kdx:d≠x:=λz=>by rw [z,c1]at nd';cases nd'
  have k4':=d3 _ _ k3' kx
  have n4':=d3 _ _ n3' knx
  have f4':=d3 _ _ f3' kfx
  have w4':=d3 _ _ c2 kwx
  have fr4:∀b o,H b=some o->b≠x->upd (upd H3 d (.lst [])) x (.ins C dx (aX "deeds" (.ref d) (aX "withdrawals" (.ref w) (aX "findings" (.ref f) (aX "names" (.ref n) []))))) b=some o:=λb o e h=>d3 _ _ (c3 _ _ (b3 _ _ (a3 _ _ (g0 _ _ e) h) h) h) h
  generalize upd (upd H3 d (.lst [])) x (.ins C dx (aX "deeds" (.ref d) (aX "withdrawals" (.ref w) (aX "findings" (.ref f) (aX "names" (.ref n) [])))))=H4 at d1 d2 d3 k4' n4' f4' w4' fr4 ⊢
  have fr4n:∀b,H4 b=none->b≠x->H b=none:=λb e h=>by
   cases eh:H b with
   | none=>rfl
   | some o=>rw [fr4 b o eh h]at e;cases e
  dsimp only
  refine yN (yK (j5 (xX (j5 ?_))))
  refine mN rfl k4' k8 ?_
  intro D H5 ps kvs nD g5 hD pk km kl'
  refine⟨D,ps,kvs,rfl,hD,pk,?_,?_,λt0 nt0=>?_⟩
  ·rw [km];exact List.Pairwise.map Sum.inr (λa b h z=>h (Sum.inr.inj z)) nd
  ·have:=congrArg List.length km
   rw [List.length_map,List.length_map]at this
   omega
  refine⟨by show 1<=sizeLine;decide,λt nt=>?_⟩
  have x5:=g5 _ _ d1
  have xt0:x≠t0:=af x5 nt0
  have tt0:t≠t0:=λz=>by rw [z,ae]at nt;cases nt
  have nt5:H5 t=none:=by rw [ag tt0]at nt;exact nt
  have xt:x≠t:=af x5 nt5
  refine⟨_,rfl,x,C,dx,_,rfl,by rw [ag xt,ag xt0];exact x5,T.cl,T.n5,?_,?_⟩
  ·have h00:=bD "deeds" (V.ref d) (aX "withdrawals" (V.ref w) (aX "findings" (V.ref f) (aX "names" (V.ref n) [])));have h0:=bD "withdrawals" (V.ref w) (aX "findings" (V.ref f) (aX "names" (V.ref n) []));have h1:=bD "findings" (V.ref f) (aX "names" (V.ref n) []);have h2:=bD "names" (V.ref n) [];simp only [List.length_nil]at h2;omega
  have st6:∀b o,H5 b=some o->b≠x->upd (upd (upd H5 t0 (.dK kvs)) t (.lst [V.ref t0])) x (.ins C dx (aX "tables" (.ref t) (aX "deeds" (.ref d) (aX "withdrawals" (.ref w) (aX "findings" (.ref f) (aX "names" (.ref n) [])))))) b=some o:=λb o e h=>by
   rw [ag h,ag (af e nt5),ag (af e nt0)];exact e
  have f5:=g5 _ _ f4'
  have n5:=g5 _ _ n4'
  have w5:=g5 _ _ w4'
  have d5:=g5 _ _ d2
  have bn:∀{b o},H5 b=some o->b≠t:=λe=>af e nt5
  have none4:∀b,H4 b=none->H b=none:=λb e=>fr4n b e λz=>by rw [z,d1]at e;cases e
  have none5:∀b,H5 b=none->H b=none:=λb e=>none4 b (by
   cases e4:H4 b with
   | none=>rfl
   | some o=>rw [g5 b o e4]at e;cases e)
  have newn:H n=none:=by
   cases e:H n with
   | none=>rfl
   | some o=>rw [g0 n o e]at nn;cases nn
  have newf:H f=none:=by
   cases e:H f with
   | none=>rfl
   | some o=>rw [a3 f o (g0 f o e) kfx]at nf;cases nf
  have neww:H w=none:=by
   cases e:H w with
   | none=>rfl
   | some o=>rw [b3 w o (a3 w o (g0 w o e) kwx) kwx]at nw;cases nw
  have newd:H d=none:=by
   cases e:H d with
   | none=>rfl
   | some o=>rw [c3 d o (b3 d o (a3 d o (g0 d o e) kdx) kdx) kdx]at nd';cases nd'
  have fn:n≠f:=af a2 nf
  have dn:n≠d:=af n3' nd'
  have df:f≠d:=af f3' nd'
  have e6:aX "tables" (V.ref t) (aX "deeds" (.ref d) (aX "withdrawals" (.ref w) (aX "findings" (.ref f) (aX "names" (.ref n) []))))=cX ⟨n,f,w,d,t⟩:=zN ⟨n,f,w,d,t⟩
  have t06:upd (upd (upd H5 t0 (.dK kvs)) t (.lst [V.ref t0])) x (.ins C dx (aX "tables" (.ref t) (aX "deeds" (.ref d) (aX "withdrawals" (.ref w) (aX "findings" (.ref f) (aX "names" (.ref n) [])))))) t0=some (.dK kvs):=by rw [ag (Ne.symm xt0),ag (Ne.symm tt0),ae]
  refine q ⟨n,f,w,d,t⟩ (λb=>H b=none) _ (λb z=>z) (λb o e h=>st6 b o (g5 _ _ (fr4 b o e h)) h) ⟨⟨dx,by rw [ae,e6]⟩,st6 _ _ n5 knx,⟨[],st6 _ _ f5 kfx,.nil⟩,st6 _ _ w5 kwx,⟨[],st6 _ _ d5 kdx,.nil⟩,⟨[t0],?_,rfl,λi y hy=>?_⟩,⟨newn,newf,neww,newd,none5 t nt5⟩,λz=>?_,df,bn f5,bn d5,Bk.new_ok nd k1 k8 λk h=>(hk k h).2.2⟩
  ·show upd _ x _ t=_
   rw [ag (Ne.symm xt),ae];rfl
  ·have hi:i=0:=by
    have:=(List.getElem?_eq_some_iff.mp hy).1
    simp at this
    exact this
   subst hi
   cases (show some t0=some y from hy)
   refine⟨none5 t0 nt0,λz=>?_,kvs,t06,?_,λk hkk=>?_⟩
   ·rcases z with z | z | z | z
    ·exact(af f5 nt0) z.symm
    ·exact(af w5 nt0) z.symm
    ·exact(af d5 nt0) z.symm
    ·exact tt0 z.symm
   ·have:=congrArg List.length km
    rw [List.length_map,List.length_map]at this
    omega
   ·obtain⟨v,ev,l,rfl,e7,e8,e9⟩:=vZ km hkk (λv=>∃l,v=.ref l/\H5 l=some (.lst [])/\H4 l=none/\l≠D) kl'
    have lx:l≠x:=aD e7 x5 (by intro z;cases z)
    refine⟨l,[],ev,none4 l e8,λz=>?_,dL (st6 _ _ e7 lx),Strip.tidy_nil,(λ_ h=>nomatch h),λd'=>rfl⟩
    rcases z with z | z | z | z
    ·exact(af f4' e8) z.symm
    ·exact(af w4' e8) z.symm
    ·exact(af d2 e8) z.symm
    ·exact(bn e7) z
  ·rcases z with z | z | z | z
   ·exact fn z
   ·exact(aD n5 w5 (by intro z;cases z)) z
   ·exact dn z
   ·exact(bn n5) z
end Mine
namespace L2
open PySem PySem.Spec PyProof.Rows
section
variable {M:Model}{A:Around}{E:Value->Shared->Prop}{s:Shared}
def Fly (h:Heap) (e:Addr):Prop:=∃oe vs T oT ts,h.get? e=some oe/\oe.data=.fields vs/\vs[1]?=some (.ref T)/\T≠e/\h.get? T=some oT/\oT.data=.fields ts/\ts[3]?=some .none
structure Noted (l:List Env) (e:Addr) (h h':Heap):Prop where
 keep:∀b o,b≠e->h.get? b=some o->b∉frs l->h'.get? b=some o
 slot:∀b o,b≠e->h.get? b=some o->∃sl,h'.get? b=some { o with slots:=sl }
 exc:∀oe vs,h.get? e=some oe->oe.data=.fields vs->∃vs',h'.get? e=some { oe with data:=.fields vs' }
 fly:Fly h' e
theorem AE {o:Obj}{vs:Array Value} (hd:o.data=.fields vs) (f:Array Value->Array Value):o.mapFields f={ o with data:=.fields (f vs) }:=by
 obtain⟨c,d,dt,sl⟩:=o
 cases hd
 rfl
theorem vF {base:Heap}{env:Env}{outer:List Env}{L e:Addr}{oe:Obj}{vs:Array Value}{head:Value}{hadNext:Bool}{Q:Unit->Shared->Prop}
  (hfr:A.frames=some (env::outer)) (hl:s.heap.FunFrames base (env::outer)) (hf:env.frame=some L)
  (he:s.heap.get? e=some oe) (hd:oe.data=.fields vs) (hsz:1 < vs.size)
  (h:∀h',Noted (env::outer) e s.heap h'->Q () { s with heap:=h' }) :
  wpAny M A (do let a <- frameOf env;let pl <- entryPlaceOf L hadNext;let b <- EntryCells.newEntry head a .none (rawInt L) .none pl;setField (.ref e) 1 b) (λ_ s'=>wpAny M A (setFlight (.ref e) none) Q E s') E s:=by
 have hene:e∉(env::outer).filterMap (·.frame):=λhm=>by
  obtain⟨_,o,ho,hnf⟩:=hl.mem hm
  rw [he]at ho;injection ho with ho;subst ho;exact hnf vs hd
 refine zB0 (wpAny_frameOf_fun hfr hl hf λh₁ hs₁=>?_)
 refine zB0 (wpAny_entryPlaceOf λpl hpl=>?_)
 unfold EntryCells.newEntry newFields
 refine zB0 (wpAny_newObj_type ?_ (hpl.sizeOk5 _ _ _ _ _))
 have he₁:h₁.get? e=some oe:=(hs₁.2.1 e hene).trans he
 generalize hT:({ cls:=.type "traceback", dict:=none,data:=.fields ([head,.ref L,.none,rawInt L,.none]++(if pl.isEmpty then List.replicate 6 Value.none else pl)).toArray }:Obj)=oT
 have he₂:=zH0 (h:=h₁) oT he₁
 refine wpAny_setField he₂ hd hsz ?_
 have hTe:h₁.objs.size≠e:=Nat.ne_of_gt (Heap.lt_size he₁)
 have hd₃:=Obj.data_mapFields hd (·.setIfInBounds 1 (Value.ref h₁.objs.size))
 have he₃:=Heap.get?_update_self (Obj.mapFields (·.setIfInBounds 1 (Value.ref h₁.objs.size))) he₂ (Obj.isFreed_of_fields hd₃)
 have hT₃:=(Heap.get?_update_other (h₁.push oT) (Obj.mapFields (·.setIfInBounds 1 (Value.ref h₁.objs.size))) (Ne.symm hTe)).trans (Heap.get?_push_size h₁ (by rw [<- hT];rfl))
 have hdT:oT.data=.fields ([head,.ref L,.none,rawInt L,.none]++(if pl.isEmpty then List.replicate 6 Value.none else pl)).toArray:=by rw [<- hT]
 unfold setFlight
 refine zB0 (wpAny_field he₃ hd₃ (x:=.ref h₁.objs.size) (by simp [hsz]) ?_)
 rw [if_pos (show (Value.ref h₁.objs.size != Value.none)=true from by simp)]
 refine wpAny_setField hT₃ hdT (by simp only [List.size_toArray,List.length_append,List.length_cons,List.length_nil] <;> omega) (h _ ?_)
 have keep:∀b o,b≠e->h₁.get? b=some o->(((h₁.push oT).update e (Obj.mapFields (·.setIfInBounds 1 (Value.ref h₁.objs.size)))).update h₁.objs.size (Obj.mapFields (·.setIfInBounds 3 ((none:Option Addr).elim Value.none λf=>rawInt f)))).get? b=some o:=λb o hbe hb=>by
  have hbT:h₁.objs.size≠b:=Nat.ne_of_gt (Heap.lt_size hb)
  rw [Heap.get?_update_other _ _ hbT,Heap.get?_update_other _ _ (Ne.symm hbe)]
  exact zH0 _ hb
 have he₄:(((h₁.push oT).update e (Obj.mapFields (·.setIfInBounds 1 (Value.ref h₁.objs.size)))).update h₁.objs.size (Obj.mapFields (·.setIfInBounds 3 ((none:Option Addr).elim Value.none λf=>rawInt f)))).get? e=some (oe.mapFields (·.setIfInBounds 1 (Value.ref h₁.objs.size))):=by
  rw [Heap.get?_update_other _ _ hTe];exact he₃
 refine⟨λb o hbe hb hn=>keep b o hbe ((hs₁.2.1 b hn).trans hb),λb o hbe hb=>?_,λoe' vs' e1 e2=>?_,?_⟩
 ·obtain⟨sl,hs⟩:=hs₁.2.2 b o hb
  exact⟨sl,keep b _ hbe hs⟩
 ·rw [he]at e1;cases e1
  exact⟨_,he₄.trans (by rw [AE hd])⟩
 ·exact⟨_,_,h₁.objs.size,_,_,he₄,hd₃,by simp [hsz],hTe,Heap.get?_update_self _ hT₃ (Obj.isFreed_of_fields (Obj.data_mapFields hdT _)),Obj.data_mapFields hdT _,by first | (simp;done) | (rcases hpl with rfl | ⟨_,_,_,_,_,_,_,rfl⟩ <;> simp)⟩
theorem gQ {h:Heap}{T:Addr}{oT:Obj}{ts:Array Value} (hT:h.get? T=some oT) (hd:oT.data=.fields ts) (h3:ts[3]?=some .none) (b:Addr):(h.update T (Obj.mapFields (·.setIfInBounds 3 Value.none))).get? b=h.get? b:=by
 by_cases e:b=T
 ·subst e
  have hd':=Obj.data_mapFields hd (·.setIfInBounds 3 Value.none)
  rw [Heap.get?_update_self _ hT (Obj.isFreed_of_fields hd'),hT,AE hd]
  have:ts.setIfInBounds 3 Value.none=ts:=by
   obtain⟨h1,h2⟩:=Array.getElem?_eq_some_iff.mp h3
   rw [Array.setIfInBounds,dif_pos h1]
   conv=>lhs;rw [<- h2]
   simp
  rw [this]
  obtain⟨c,d,dt,sl⟩:=oT
  cases hd
  rfl
 ·exact Heap.get?_update_other _ _ (Ne.symm e)
theorem Bc {base h h':Heap} (k:∀b,h'.get? b=h.get? b){l:List Env} (hl:h.FunFrames base l):h'.FunFrames base l:=hl.of_keeps λb o ho _=>⟨o,(k b).trans ho,rfl⟩
theorem xZ {base:Heap}{env:Env}{outer:List Env}{L e:Addr}{oe:Obj}{vs:Array Value}{Q:Unit->Shared->Prop}
  (hfr:A.frames=some (env::outer)) (hl:s.heap.FunFrames base (env::outer)) (hf:env.frame=some L)
  (he:s.heap.get? e=some oe) (hd:oe.data=.fields vs) (h1:vs[1]?=some .none\/Fly s.heap e)
  (h:∀h',Noted (env::outer) e s.heap h'->Q () { s with heap:=h' }) :
  wpAny M A (noteFrame (.ref e) env) (λ_ s'=>wpAny M A (setFlight (.ref e) none) Q E s') E s:=by
 unfold noteFrame
 simp only [hf]
 rcases h1 with h1 | ⟨oe',vs',T,oT,ts,e1,e2,h1,hTe,hT,hdT,h3⟩
 ·refine zB0 (wpAny_field he hd h1 ?_)
  rw [if_neg (by decide)]
  exact vF hfr hl hf he hd (Array.getElem?_eq_some_iff.mp h1).1 h
 ·rw [he]at e1;cases e1
  rw [hd]at e2;cases e2
  refine zB0 (wpAny_field he hd h1 ?_)
  rw [if_pos (show (Value.ref T != Value.none)=true from by simp)]
  refine zB0 (wpAny_field hT hdT h3 ?_)
  rw [if_neg (show ¬((Value.none == rawInt L)=true) from by simp [rawInt])]
  refine zB0 (wpAny_setField hT hdT (Array.getElem?_eq_some_iff.mp h3).1 ?_)
  have same:=gQ hT hdT h3
  refine vF hfr (Bc same hl) hf ((same e).trans he) hd (Array.getElem?_eq_some_iff.mp h1).1 λh' N=>h h' ⟨λb o hb q=>N.keep b o hb ((same b).trans q),λb o hb q=>N.slot b o hb ((same b).trans q),λoe vs q=>N.exc oe vs ((same e).trans q),N.fly⟩
theorem zq {base:Heap}{env:Env}{outer:List Env}{L e:Addr}{oe:Obj}{vs:Array Value}{Q:Unit->Shared->Prop}
  (hfr:A.frames=some (env::outer)) (hl:s.heap.FunFrames base (env::outer)) (hf:env.frame=some L)
  (he:s.heap.get? e=some oe) (hd:oe.data=.fields vs) (h1:vs[1]?=some .none\/Fly s.heap e)
  (h:∀h',Noted (env::outer) e s.heap h'->Q () { s with heap:=h' }):wpAny M A (leaving env (.ref e)) Q E s:=by
 unfold leaving
 exact zB0 (xZ hfr hl hf he hd h1 h)
end
section
variable {M:Model}{A:Around}{E:Value->Shared->Prop}{env:Env}
theorem lF {s:Shared}{x:Sem Value}{Q:Flow->Shared->Prop} (hh:A.handled=none)
  (h:wpAny M A x (λv s₁=>∃(e C:Addr) (D:Option Addr) (vs:Array Value),v=.ref e/\(∃(U:Addr) (nm qn:Str) (N:Addr) (bs:List Value) (hdct:Bool) (sn:List Str) (sub:List Value) (ab:Bool) (col:Option Bool) (dd:Option Addr) (k0 k1 k2 k3 k5:Option Value),s₁.heap.get? C=some (excClassObj nm qn C N bs (.ref U::kg) hdct sn sub ab col dd k0 k1 k2 k3 k5 "ValueError.__new__"))/\
   s₁.heap.get? e=some { cls:=.ref C,dict:=D,data:=.fields vs }/\vs[1]?=some .none/\E (.ref e) s₁) E s) :
  wpAny M A (raiseStmt env (some x) none) Q E s:=by
 unfold raiseStmt
 refine zB0 (wpAny_mono h (λv s₁ h₁=>?_) λ_ _ x=>x)
 obtain⟨e,C,D,vs,rfl,⟨U,nm,qn,N,bs,hdct,sn,sub,ab,col,dd,k0,k1,k2,k3,k5,hC⟩,he,h1,hE⟩:=h₁
 have hcB:(Value.ref C::.ref U::kg).contains (.type "BaseException")=true:=by
  rw [List.contains_cons,List.contains_cons,show kg.contains (.type "BaseException")=true from by decide,Bool.or_true,Bool.or_true]
 obtain⟨hp,g,d,tk,os⟩:=s₁
 repeat (first | with_reducible refine wpAny_loadPart_at he ?_ | with_reducible refine wpAny_loadPart_at hC ?_ | (with_reducible refine wpAny_isSubtype_exc hC ?_;rw [hcB]) | (unfold setFlight;refine zB0 (zB0 (wpAny_field he rfl h1 ?_));rw [if_neg (by decide)];refine zP0 ?_) | wp_step)
 exact wpAny_raiseNew_none hh hE
end
section
variable {M:Model}{A:Around}{E:Value->Shared->Prop}{env:Env}
theorem vW {s:Shared}{x:Expr}{pos:Pos}{Q:Flow->Shared->Prop} (hh:A.handled=none)
  (h:wpAny M A (eval x env) (λv s₁=>∃(e C:Addr) (D:Option Addr) (vs:Array Value),v=.ref e/\(∃(U:Addr) (nm qn:Str) (N:Addr) (bs:List Value) (hdct:Bool) (sn:List Str) (sub:List Value) (ab:Bool) (col:Option Bool) (dd:Option Addr) (k0 k1 k2 k3 k5:Option Value),s₁.heap.get? C=some (excClassObj nm qn C N bs (.ref U::kg) hdct sn sub ab col dd k0 k1 k2 k3 k5 "ValueError.__new__"))/\
   s₁.heap.get? e=some { cls:=.ref C,dict:=D,data:=.fields vs }/\vs[1]?=some .none/\E (.ref e) s₁) E s) :
  wpAny M A (exec (.Raise (some x) none pos) env) Q E s:=by
 rw [arm_exec_Raise]
 first
  | exact zB0 (wpAny_standAt (lF hh (zB0 (wpAny_mono h (λv s₁ h₁=>zB0 (wpAny_standAt (zP0 h₁))) λ_ _ x=>x))))
  | (simp only [evalOpt,Option.map];exact zB0 (wpAny_standAt (lF hh (zB0 (wpAny_mono h (λv s₁ h₁=>zB0 (wpAny_standAt (zP0 h₁))) λ_ _ x=>x)))))
  | (show wpAny M A (do standAt pos;raiseStmt env (some (do let v <- eval x env;standAt pos;pure v)) none) Q E s;exact zB0 (wpAny_standAt (lF hh (zB0 (wpAny_mono h (λv s₁ h₁=>zB0 (wpAny_standAt (zP0 h₁))) λ_ _ x=>x)))))
end
section
variable {P:Program}{w:World}{H:Hp}{h h':Heap}{l:List Env}{a C:Addr}{D:Option Addr}{n:Bool}
theorem gO {b:Addr}{o:HO} (hx:H a=some (XOn n C a D)) (e:H b=some o) (ho:∀p,o≠.ext p):b≠a:=λz=>by
 rw [z,hx]at e
 exact ho _ (Option.some.inj e).symm
theorem kU (ok:HOk P w H h) (N:Noted l a h h') (hx:H a=some (XOn n C a D)) (fr:∀b∈frs l,H b=none):HOk P w (upd H a (XOn false C a D)) h':=λb u q=>by
 obtain⟨vs,he,_⟩:=(ok a _ hx).1
 by_cases hb:b=a
 ·subst hb
  rw [ae]at q
  cases q
  obtain⟨vs',e'⟩:=N.exc _ _ he rfl
  exact sN e' λz=>by cases z
 ·rw [ag hb]at q
  refine(ok b u q).stay (λc v hc e=>?_) (λc e=>?_) λc xs e=>?_
  ·have hca:c≠a/\H c≠none:=by
    rcases hc with rfl | hc
    ·exact⟨hb,by rw [q];intro z;cases z⟩
    ·exact⟨gO hx hc (by intro p z;cases z),by rw [hc];intro z;cases z⟩
   exact N.keep c v hca.1 e λz=>hca.2 (fr c z)
  ·rw [ag (gO hx e (by intro p z;cases z))];exact e
  ·rw [ag (gO hx e (by intro p z;cases z))];exact e
theorem uY (N:Noted l a h h') (hx:H a=some (XOn n C a D)) (hth:∃o,h'.get? a=some o):Un (frs l) [] H (upd H a (XOn false C a D)) h h':=by
 have ne:∀{b:Addr},H b=none->b≠a:=λ{b} e z=>by rw [z,hx]at e;cases e
 refine⟨λb o e nb hb _=>N.keep b o (ne nb) e hb,λb o e nb hb _=>N.slot b o (ne nb) e,λb o e nb _=>by rw [ag (ne nb)];exact nb,λb o e _=>?_,λb xs e=>?_,λb o u e=>?_,λb ps e=>?_⟩
 ·by_cases z:b=a
  ·rw [z];exact hth
  ·obtain⟨sl,q⟩:=N.slot b o z e
   exact⟨_,q⟩
 ·rw [ag (gO hx e (by intro p z;cases z))];exact e
 ·rw [ag (gO hx e (by intro p z;cases z))];exact e
 ·exact⟨#[],by rw [ag (gO hx e (by intro p z;cases z)),e];simp⟩
end
noncomputable def CXR (P:Program) (w:World):CXT:=λouter H s E e s'=>∃(a C:Addr) (D:Option Addr) (H':Hp),e=.ref a/\Fly s'.heap a/\H' a=some (XOn false C a D)/\s'.os=s.os/\AllBare s'.gens/\Un (frs outer) [] H H' s.heap s'.heap/\HOk P w H' s'.heap/\E (.ref C) (some a) H'
theorem mM {H:Hp}{a:Addr}{o:HO} (e:H a=some o):upd H a o=H:=by
 funext b
 by_cases z:b=a
 ·rw [z,ae,e]
 ·rw [ag z]
section
variable {P:Program}{w:World}{K:W.Frag}{mg:Str->Option Value}{base:Heap}{N:List Str}{qual:Str}{scope:Scope}{f:Addr}{cd:Value}{A:Around}{outer:List Env}{s:Shared}{H:Hp}{E:XK}
theorem qC {pins:List (Addr × Obj)}{σ:St}{H1:Hp}{s1:Shared}{n:Bool}{a C:Addr}{D:Option Addr} (I:Inv (fm (CXR P w) P w K mg base N qual scope f cd A outer s H E) pins σ H1 s1) (hx:H1 a=some (XOn n C a D)) (hn:n=true\/Fly s1.heap a)
  (e:E (.ref C) (some a) (upd H1 a (XOn false C a D))):(fm (CXR P w) P w K mg base N qual scope f cd A outer s H E).xe (.ref a) s1:=by
 obtain⟨vs,he,hv⟩:=im I hx
 show wpAny (model P w) (A.deeper (envOfC qual scope s.heap.objs.size f cd)) (leaving (envOfC qual scope s.heap.objs.size f cd) (.ref a)) (λ_ s''=>CXR P w outer H s E (.ref a) s'') _ s1
 refine zq (base:=base) (L:=s.heap.objs.size) I.ok.frames I.stack rfl he rfl (hn.imp (λz=>hv z) id) λh' Nt=>?_
 have ne:∀{b:Addr},H1 b=none->b≠a:=λ{b} e z=>by rw [z,hx]at e;cases e
 obtain⟨vs',ha'⟩:=Nt.exc _ _ he rfl
 have nex:∀b:Addr,b∉(fm (CXR P w) P w K mg base N qual scope f cd A outer s H E).ex:=λb z=>nomatch (show b∈([]:List Addr) from z)
 have nf:∀{b:Addr}{o:Obj},s.heap.get? b=some o->b∉frs outer->b∉frs (envOfC qual scope s.heap.objs.size f cd::outer):=λ{b o} e hb z=>by
  rcases List.mem_cons.mp (I.stkSub b z) with q | q
  ·exact Nat.lt_irrefl _ (show s.heap.objs.size < s.heap.objs.size by
    have:=Heap.lt_size e
    rw [q]at this
    exact this)
  ·exact hb q
 refine⟨a,C,D,_,rfl,Nt.fly,ae,I.os,I.bare,⟨λb o q nb hb _=>?_,λb o q nb hb _=>?_,λb o q nb _=>?_,λb o q _=>?_,λb xs q=>?_,λb o u q=>?_,λb ps q=>?_⟩,kU I.hok Nt hx I.stkFree,e⟩
 ·exact Nt.keep b o (ne (I.base.free b o q nb (nex b))) (I.base.keep b o q nb hb (nex b)) (nf q hb)
 ·obtain⟨sl,q1⟩:=I.base.slot b o q nb hb (nex b)
  obtain⟨sl',q2⟩:=Nt.slot b _ (ne (I.base.free b o q nb (nex b))) q1
  exact⟨sl',q2⟩
 ·have:=I.base.free b o q nb (nex b)
  rw [ag (ne this)]
  exact this
 ·obtain⟨o',q1⟩:=I.base.there b o q (nex b)
  by_cases z:b=a
  ·rw [z];exact⟨_,ha'⟩
  ·obtain⟨sl,q2⟩:=Nt.slot b o' z q1
   exact⟨_,q2⟩
 ·have:=I.base.tups b xs q
  rw [ag (gO hx this (by intro p z;cases z))];exact this
 ·have:=I.base.frzs b o u q
  rw [ag (gO hx this (by intro p z;cases z))];exact this
 ·obtain⟨more,this⟩:=I.base.tbls b ps q
  exact⟨more,by rw [ag (gO hx this (by intro p z;cases z))];exact this⟩
theorem kS:eM (CXR P w) (fm (CXR P w) P w K mg base N qual scope f cd A outer s H E) E:=by
 rintro pins σ H1 s1 e s2 I ⟨a,C,D,H2,rfl,fl,hx,os,bare,un,hok,q⟩
 have I2:=I.call' os un hok bare λb z=>nomatch (show b∈([]:List Addr) from z)
 exact qC I2 hx (.inr fl) (by rw [mM hx];exact q)
noncomputable def oo (K:PySem.W.Frag) (E:XK) (te:TE):TS:=λ_ σ H=>te σ H λx H1=>∃(a C U:Addr) (D:Option Addr),x=.ref a/\H1 a=some (XO C a D)/\XCls K C U/\E (.ref C) (some a) (upd H1 a (XOn false C a D))
theorem ur {x:Expr}{te:TE}{pos:Pos} (he:PE (fm (CXR P w) P w K mg base N qual scope f cd A outer s H E) x te):PS (fm (CXR P w) P w K mg base N qual scope f cd A outer s H E) (.Raise (some x) none pos) (oo K E te):=by
 intro pins s1 σ H1 D I h
 refine vW (I.ok.hd rfl) (thn (he pins s1 σ H1 _ I h) λv s2 ⟨y,H2,I2,ry,a,C,U,D',ey,hx,T,q⟩=>?_)
 subst ey
 obtain rfl:v=Value.ref a:=ry
 obtain⟨vs,ha,hv⟩:=im I2 hx
 obtain⟨_,_,nm,qn,N',bs,hdct,sn,sub,ab,col,dd,k0,k1,k2,k3,k5,hC⟩:=qS I2.kIn T.ex
 exact⟨a,C,D',vs,rfl,⟨U,nm,qn,N',bs,hdct,sn,sub,ab,col,dd,k0,k1,k2,k3,k5,hC⟩,ha,hv rfl,qC I2 hx (.inl rfl) q⟩
end
section
variable {M:Model}{A:Around}{E:Value->Shared->Prop}
theorem vV {h:Heap}{g:Array GenState}{d:Drawn}{t:Nat}{os:OsState}{e C C':Addr}{oe:Obj}{Q:Bool->Shared->Prop}{nm q nm' q':Str}{N N':Addr}{bs bm bs' bm':List Value}{hdct hdct':Bool}{sn sn':List Str}{sub sub':List Value}{ab ab':Bool}{col col':Option Bool}{dd dd':Option Addr}{k0 k1 k2 k3 k5 l0 l1 l2 l3 l5:Option Value}{newId newId':String}
  (hC:h.get? C=some (excClassObj nm q C N bs bm hdct sn sub ab col dd k0 k1 k2 k3 k5 newId)) (hC':h.get? C'=some (excClassObj nm' q' C' N' bs' bm' hdct' sn' sub' ab' col' dd' l0 l1 l2 l3 l5 newId')) (he:h.get? e=some oe) (hcls:oe.cls=.ref C) (hbase:bm'.contains (.type "BaseException")=true)
  (hq:Q ((Value.ref C::bm).contains (.ref C')) ⟨h,g,d,t,os⟩):wpAny M A (excMatches (.ref e) (.ref C')) Q E ⟨h,g,d,t,os⟩:=by
 have hcB:(Value.ref C'::bm').contains (.type "BaseException")=true:=by rw [List.contains_cons,hbase,Bool.or_true]
 have f:=tc_notTuple
 unfold excMatches
 repeat (first | (with_reducible refine wpAny_loadPart_at he ?_;rw [hcls]) | with_reducible refine wpAny_loadPart_at hC' ?_ | (with_reducible refine wpAny_isSubtype_exc hC' ?_;rw [hcB]) | (with_reducible refine wpAny_isSubtype_exc hC ?_;generalize hb:(Value.ref C::bm).contains (.ref C')=b at hq ⊢) | wp_step)
 cases b <;> (wp_walk;exact hq)
end
noncomputable def hIn (K:PySem.W.Frag) (C:Addr):Bool:=match K.lookup C with
 | some ⟨.type "type", _,.cls cd,sl⟩=>(match sl.toList with
  | [_,_,_,_,some (.builtin _),_]=>cd.mro == .ref C::cd.mro.drop 1 && !cd.hasDel && (cd.mro.drop 1).contains (.type "BaseException")
  | _=>false)
 | _=>false
theorem Ba {K:W.Frag}{h:Heap}{C:Addr} (X:K.In h) (q:hIn K C=true) :
  ∃bm nm qn N bs hdct sn sub ab col dd k0 k1 k2 k3 k5 nid,h.get? C=some (excClassObj nm qn C N bs bm hdct sn sub ab col dd k0 k1 k2 k3 k5 nid)/\bm.contains (.type "BaseException")=true:=by
 unfold hIn at q
 split at q
 ·rename_i dd cd sl ho
  split at q
  ·rename_i k0 k1 k2 k3 n k5 hs
   simp only [Bool.and_eq_true,beq_iff_eq,Bool.not_eq_true']at q
   obtain⟨⟨hm,hdel⟩,hb⟩:=q
   obtain⟨nm,bs,mro,ns,qn,hdc,sn,sub,ab,col,del⟩:=cd
   dsimp only at hm hdel hb
   subst hdel
   have e:sl = #[k0,k1,k2,k3,some (.builtin n),k5]:=by
    obtain⟨l⟩:=sl
    simp only at hs
    rw [hs]
   subst e
   rw [hm]at ho
   exact⟨_,nm,qn,ns,bs,hdc,sn,sub,ab,col,dd,k0,k1,k2,k3,k5,n,X _ _ ho,hb⟩
  ·cases q
 ·cases q
noncomputable abbrev Cx.held (X:Cx) (a:Addr):Cx:={ X with A:=X.A.mark (some (.ref a)),calm:=false,xe:=λ_ _=>False }
noncomputable abbrev Cx.tried (X:Cx) (E:Value->Shared->Prop) (pn:List (Addr × Obj)):Cx:={ X with xe:=E,pn:=pn }
section
variable {X:Cx}{pins:List (Addr × Obj)}{σ:St}{H:Hp}{s:Shared}{E:Value->Shared->Prop}{a:Addr}
theorem Inv.hold (I:Inv X pins σ H s) (a:Addr):Inv (X.held a) pins σ H s:=
 ⟨⟨I.ok.mod,I.ok.kind,I.ok.glob,I.ok.blt,I.ok.above,I.ok.inj,I.ok.has,I.ok.cab,(λz=>by cases z),I.ok.frames,I.ok.stk,I.ok.exf,I.ok.bs,I.ok.bsz,I.ok.noex,I.ok.exfs,I.ok.funs,I.ok.frf⟩,I.os,I.bare,I.base,I.loc,I.cell,I.free,I.freeC,I.pin,I.hok,I.len⟩
theorem Inv.unhold (hd:X.calm=true->X.A.handled=none) (I:Inv (X.held a) pins σ H s):Inv X pins σ H s:=
 ⟨⟨I.ok.mod,I.ok.kind,I.ok.glob,I.ok.blt,I.ok.above,I.ok.inj,I.ok.has,I.ok.cab,hd,I.ok.frames,I.ok.stk,I.ok.exf,I.ok.bs,I.ok.bsz,I.ok.noex,I.ok.exfs,I.ok.funs,I.ok.frf⟩,I.os,I.bare,I.base,I.loc,I.cell,I.free,I.freeC,I.pin,I.hok,I.len⟩
theorem Inv.try' (I:Inv X pins σ H s) (E:Value->Shared->Prop):Inv (X.tried E (X.pn++pins)) [] σ H s:=
 ⟨⟨I.ok.mod,I.ok.kind,I.ok.glob,I.ok.blt,I.ok.above,I.ok.inj,I.ok.has,I.ok.cab,I.ok.hd,I.ok.frames,I.ok.stk,I.ok.exf,I.ok.bs,I.ok.bsz,I.ok.noex,I.ok.exfs,I.ok.funs,I.ok.frf⟩,I.os,I.bare,I.base,I.loc,I.cell,I.free,I.freeC,(by rw [List.append_nil];exact I.pin),I.hok,I.len⟩
theorem Inv.untry {pins':List (Addr × Obj)} (I:Inv (X.tried E (X.pn++pins)) pins' σ H s):Inv X pins σ H s:=
 ⟨⟨I.ok.mod,I.ok.kind,I.ok.glob,I.ok.blt,I.ok.above,I.ok.inj,I.ok.has,I.ok.cab,I.ok.hd,I.ok.frames,I.ok.stk,I.ok.exf,I.ok.bs,I.ok.bsz,I.ok.noex,I.ok.exfs,I.ok.funs,I.ok.frf⟩,I.os,I.bare,I.base,I.loc,I.cell,I.free,I.freeC,(λp hp=>I.pin p (List.mem_append_left _ hp)),I.hok,I.len⟩
theorem qU {M:Model}{A:Around}{E:Value->Shared->Prop}{i:Nat}{x:Str}{v:V}{Q:Unit->Shared->Prop} (I:Inv X pins σ H s) (hN:X.N.Nodup) (hi:X.N[i]?=some x) (hk:X.env.scope.names.lookup x=some .local) (hv:σ[i]?=some (some v))
  (h:∀s',Inv X pins (σ.set i none) H s'->Q () s'):wpAny M A (unbindName X.env x) Q E s:=by
 obtain⟨m,hn,hl⟩:=id I.loc
 have hcls:(X.env.scope.kind == .class || (X.env.scope.kind == .module && X.env.locals != X.env.globals))=false:=by rw [I.ok.kind];rfl
 have hiσ:i < σ.length:=by rw [I.len];exact(List.getElem?_eq_some_iff.mp hi).1
 have cne:=I.cne
 obtain⟨u,ru,lu⟩:=hl i x v hi hv (.inl hk)
 have hmx:m x=some u:=by
  rcases lu with⟨_,e⟩ | ⟨k,_⟩
  ·exact e
  ·have:X.env.kindOf x=some .local:=hk
   rw [this]at k
   rcases k with k | k <;> cases k
 obtain⟨oL,_,_,hoL,_⟩:=id hn
 refine wpAny_unbindName_local hk hn hmx hcls λh' u' hn' hs=>h _ ⟨I.ok,I.os,I.bare,⟨λb o e n hb hx=>?_,λb o e n hb hx=>?_,I.base.free,λb o e hx=>?_,I.base.tups,I.base.frzs,I.base.tbls⟩,⟨_,hn',λj y v' e1 e2 e3=>?_⟩,λy c e=>?_,I.free,I.freeC,λp hp=>?_,λb ob e=>?_,by simpa using I.len⟩
 ·exact(hs.2 b (Nat.ne_of_lt (Nat.lt_of_lt_of_le (Heap.lt_size e) I.ok.above))).trans (I.base.keep b o e n hb hx)
 ·obtain⟨sl,e1⟩:=I.base.slot b o e n hb hx
  exact⟨sl,(hs.2 b (Nat.ne_of_lt (Nat.lt_of_lt_of_le (Heap.lt_size e) I.ok.above))).trans e1⟩
 ·obtain⟨o',e1⟩:=I.base.there b o e hx
  exact⟨o',(hs.2 b (Nat.ne_of_lt (Nat.lt_of_lt_of_le (Heap.lt_size e) I.ok.above))).trans e1⟩
 ·by_cases hj:j=i
  ·subst hj
   rw [List.getElem?_set_self hiσ]at e2
   cases e2
  ·rw [List.getElem?_set_ne (Ne.symm hj)]at e2
   obtain⟨u2,r',q⟩:=hl j y v' e1 e2 e3
   refine⟨u2,r',?_⟩
   rcases q with⟨k,e⟩ | ⟨k,c,e,z⟩
   ·refine .inl ⟨k,?_⟩
    have:y≠x:=λe=>hj (jF hN e1 (e ▸ hi))
    simp [this,e]
   ·exact .inr ⟨k,c,e,z.sameBut hs (cne y c e)⟩
 ·obtain⟨w',z⟩:=I.cell y c e
  exact⟨w',z.sameBut hs (cne y c e)⟩
 ·obtain⟨e,n,ne,nf,d⟩:=I.pin p hp
  exact⟨(hs.2 p.1 ne).trans e,n,ne,nf,d⟩
 ·refine(I.hok b ob e).stay (λc w' hc q=>(hs.2 c ?_).trans q) (λ_ q=>q) λ_ _ q=>q
  rintro rfl
  rcases hc with rfl | hc
  ·rw [I.free]at e;cases e
  ·rw [I.free]at hc;cases hc
end
noncomputable abbrev TH:=Addr->Addr->Ends->St->Hp->Prop
def PH (X:Cx) (hs:List ExceptHandler) (th:TH):Prop:=
 ∀(pins:List (Addr × Obj)) (s:Shared) (σ:St) (H:Hp) (D:Ends) (a C:Addr) (Dd:Option Addr),Inv X pins σ H s->H a=some (XOn false C a Dd)->Fly s.heap a->th a C D σ H->wpAny (model X.prog X.w) X.A (handleBy (.ref a) X.env hs) (SP X pins D) X.xe s
noncomputable def Ab:TH:=λ_ _ _ _ _=>False
theorem yT {X:Cx}:PH X [] Ab:=λ_ _ _ _ _ _ _ _ _ _ _ h=>h.elim
noncomputable def tAs (K:PySem.W.Frag) (C':Addr) (i:Nat) (ts:Addr->TS) (tr:TH):TH:=λa C D σ H=>∃U,XCls K C U/\if (io C U).contains (.ref C')=true then
 ts a { nx:=λσ' H'=>D.nx (σ'.set i none) H',rt:=λv H'=>D.rt v H',bk:=λσ' H'=>D.bk (σ'.set i none) H',ct:=λσ' H'=>D.ct (σ'.set i none) H' } (σ.set i (some (.ref a))) H
 else tr a C D σ H
noncomputable def A8 (K:PySem.W.Frag) (C':Addr) (ts:Addr->TS) (tr:TH):TH:=λa C D σ H=>∃U,XCls K C U/\if (io C U).contains (.ref C')=true then ts a D σ H else tr a C D σ H
section
variable {X:Cx}
theorem SP.unhold {pins:List (Addr × Obj)}{D:Ends}{f:Flow}{s':Shared}{a:Addr} (hd:X.calm=true->X.A.handled=none) (h:SP (X.held a) pins D f s'):SP X pins D f s':=by
 cases f with
 | next=>obtain⟨σ',H',I,q⟩:=h;exact⟨σ',H',I.unhold hd,q⟩
 | brk=>obtain⟨σ',H',I,q⟩:=h;exact⟨σ',H',I.unhold hd,q⟩
 | cont=>obtain⟨σ',H',I,q⟩:=h;exact⟨σ',H',I.unhold hd,q⟩
 | ret u=>obtain⟨v,σ',H',I,r,q⟩:=h;exact⟨v,σ',H',I.unhold hd,r,q⟩
theorem sO {pins:List (Addr × Obj)}{s:Shared}{σ:St}{H:Hp}{a C U C':Addr}{Dd:Option Addr}{x:Str}{p pos:Pos}{R:Result->Shared->Prop} (I:Inv X pins σ H s) (hx:H a=some (XOn false C a Dd)) (T:XCls X.K C U) (hT:hIn X.K C'=true) (hg:Gl X x) (hm:X.mg x=some (.ref C')) (hdb:(x == ("__debug__" : Str))=false)
  (h:R (.ok (if (io C U).contains (.ref C') then .brk else .next)) s):codeAny (model X.prog X.w) (X.A.mark (some (.ref a))) (.handlers (.ref a) [.ExceptHandler (some (.Name x p)) none [] pos] X.env) R s:=by
 have Im:=I.hold a
 obtain⟨vs,he,_⟩:=im I hx
 obtain⟨_,_,nm,qn,N,bs,hdct,sn,sub,ab,col,dd,k0,k1,k2,k3,k5,hC⟩:=qS I.kIn T.ex
 obtain⟨bm,nm',qn',N',bs',hdct',sn',sub',ab',col',dd',l0,l1,l2,l3,l5,nid,hC',hbs⟩:=Ba I.kIn hT
 refine codeAny_handlers_test (fV (X:=X.held a) Im hg hm ?_ hdb)
 obtain⟨hp,g,d,tk,os⟩:=s
 exact vV hC hC' he rfl hbs h
theorem mJ {M:Model}{A:Around}{E:Value->Shared->Prop}{pins:List (Addr × Obj)}{s:Shared}{σ:St}{H:Hp}{a:Addr}{Q:Unit->Shared->Prop} (I:Inv X pins σ H s) (fl:Fly s.heap a) (h:∀s',Inv X pins σ H s'->Q () s'):wpAny M A (setFlight (.ref a) none) Q E s:=by
 obtain⟨oe,vs,T,oT,ts,he,hd,h1,hTe,hT,hdT,h3⟩:=fl
 refine wpAny_setFlight_none he hd h1 hT hdT (Array.getElem?_eq_some_iff.mp h3).1 (h _ (I.kept (t':=s.toks) λb u e=>?_))
 rw [gQ hT hdT h3]
 exact e
theorem AB {x n:Str}{p pos:Pos}{i:Nat}{C':Addr}{b₀:Stmt}{suite:List Stmt}{rest:List ExceptHandler}{ts:Addr->TS}{tr:TH} (hc:X.A.handled=none) (hT:hIn X.K C'=true) (hg:Gl X x) (hm:X.mg x=some (.ref C')) (hN:X.N.Nodup) (hi:X.N[i]?=some n) (hn:X.env.scope.names.lookup n=some .local)
  (hs:∀a,PSs (X.held a) (b₀::suite) (ts a)) (hr:PH X rest tr) (hdb:(x == ("__debug__" : Str))=false:=by decide):PH X (.ExceptHandler (some (.Name x p)) (some n) (b₀::suite) pos::rest) (tAs X.K C' i ts tr):=by
 intro pins s σ H D a C Dd I hx fl h
 obtain⟨U,T,h⟩:=h
 refine wpAny_handleBy_cons (sO I hx T hT hg hm hdb ?_) (by intro q;cases q)
 cases hb:(io C U).contains (.ref C') with
 | false=>
  rw [hb,if_neg (by decide)]at h
  exact hr pins s σ H D a C Dd I hx fl h
 | true=>
  rw [hb,if_pos rfl]at h
  refine codeAny_handlers_suite_as (mJ (I.hold a) fl λs1 I1=>?_)
  refine gR (X:=X.held a) I1 hN hi (.inl hn) (v:=.ref a) rfl (λs2 I2=>?_) (.inr hn)
  refine wpAny_mono (hs a pins s2 _ H _ I2 h) (λf s3 q=>?_) λ_ _ z=>z.elim
  have un:∀{σ':St}{H':Hp}{R:Unit->Shared->Prop},Inv (X.held a) pins σ' H' s3->(∀s4,Inv X pins (σ'.set i none) H' s4->R () s4)->wpAny (model X.prog X.w) X.A (do bindName X.env n .none;unbindBehindTheSuite X.env n pos) R X.xe s3:=λ{σ' H' R} I3 hR=>by
   have I4:=I3.unhold λ_=>hc
   have hil:i < σ'.length:=by rw [I4.len];exact(List.getElem?_eq_some_iff.mp hi).1
   refine zB0 (wpAny_bindName (gR I4 hN hi (.inl hn) (v:=.non) rfl (λs4 I5=>?_) (.inr hn)))
   unfold unbindBehindTheSuite
   refine wpAny_onRaise (qU I5 hN hi hn (v:=.non) (by rw [List.getElem?_set_self hil]) λs5 I6=>hR s5 ?_)
   rw [List.set_set]at I6
   exact I6
  cases f with
  | next=>
   obtain⟨σ',H',I3,q⟩:=q
   exact un I3 λs4 I4=>⟨_,_,I4,q⟩
  | brk=>
   obtain⟨σ',H',I3,q⟩:=q
   exact un I3 λs4 I4=>⟨_,_,I4,q⟩
  | cont=>
   obtain⟨σ',H',I3,q⟩:=q
   exact un I3 λs4 I4=>⟨_,_,I4,q⟩
  | ret u=>
   obtain⟨v,σ',H',I3,r,q⟩:=q
   exact un I3 λs4 I4=>⟨v,_,_,I4,r,q⟩
theorem wN {x:Str}{p pos:Pos}{C':Addr}{b₀:Stmt}{suite:List Stmt}{rest:List ExceptHandler}{ts:Addr->TS}{tr:TH} (hc:X.A.handled=none) (hT:hIn X.K C'=true) (hg:Gl X x) (hm:X.mg x=some (.ref C'))
  (hs:∀a,PSs (X.held a) (b₀::suite) (ts a)) (hr:PH X rest tr) (hdb:(x == ("__debug__" : Str))=false:=by decide):PH X (.ExceptHandler (some (.Name x p)) none (b₀::suite) pos::rest) (A8 X.K C' ts tr):=by
 intro pins s σ H D a C Dd I hx fl h
 obtain⟨U,T,h⟩:=h
 refine wpAny_handleBy_cons (sO I hx T hT hg hm hdb ?_) (by intro q;cases q)
 cases hb:(io C U).contains (.ref C') with
 | false=>
  rw [hb,if_neg (by decide)]at h
  exact hr pins s σ H D a C Dd I hx fl h
 | true=>
  rw [hb,if_pos rfl]at h
  refine codeAny_handlers_suite (mJ (I.hold a) fl λs1 I1=>?_)
  exact wpAny_mono (hs a pins s1 σ H _ I1 h) (λf s3 q=>q.unhold λ_=>hc) λ_ _ z=>z.elim
end
section
variable {P:Program}{w:World}{K:W.Frag}{mg:Str->Option Value}{base:Heap}
theorem Fun.okX {x qual:Str}{st:Stmt}{f:Addr}{fd:FuncData}{N ps:List Str}{k:Nat}{sp:Sp} (F:Fun K x qual st f fd) (S:FnScope N ps (al st)) (len:∀vs H Q E,sp vs H Q E->vs.length=ps.length)
  (hbody:∀(cdv:Value) (A:Around) (outer:List Env) (s:Shared) (H:Hp) (vs:List V) (Q:VK) (E:XK),Room k (A.deeper (envOfC qual (al st) s.heap.objs.size f cdv))->sp vs H Q E->
   ∃t,PSs (fm (CXR P w) P w K mg base N qual (al st) f cdv A outer s H E) (bW st) t/\t { nx:=λ_ H'=>Q .non H',rt:=Q } (dM N vs) H):FnOk P w K mg base (CXR P w) (k+1) f fd ps sp:=by
 obtain⟨oc,od,kV,doc,pm,an,cdv,ct,osl,rfl,lk,hcd⟩:=F.ex
 exact o0 lk hcd S len λA outer s H vs Q E hr hsp=>hbody cdv A outer s H vs Q E hr hsp
theorem FunD.okX {x qual:Str}{st:Stmt}{dV:Value}{f:Addr}{fd:FuncData}{N ps:List Str}{k:Nat}{sp:Sp} (F:FunD K x qual st dV f fd) (S:FnScope N ps (al st)) (len:∀vs H Q E,sp vs H Q E->vs.length=ps.length)
  (hbody:∀(cdv:Value) (A:Around) (outer:List Env) (s:Shared) (H:Hp) (vs:List V) (Q:VK) (E:XK),Room k (A.deeper (envOfC qual (al st) s.heap.objs.size f cdv))->sp vs H Q E->
   ∃t,PSs (fm (CXR P w) P w K mg base N qual (al st) f cdv A outer s H E) (bW st) t/\t { nx:=λ_ H'=>Q .non H',rt:=Q } (dM N vs) H):FnOk P w K mg base (CXR P w) (k+1) f fd ps sp:=by
 obtain⟨oc,od,kV,doc,pm,an,cdv,ct,osl,rfl,lk,hcd⟩:=F.ex
 exact o0 lk hcd S len λA outer s H vs Q E hr hsp=>hbody cdv A outer s H vs Q E hr hsp
theorem FnOk.both {k:Nat}{f:Addr}{fd:FuncData}{ps:List Str}{sp sp':Sp} (F:FnOk P w K mg base CX0 k f fd ps sp) (G:FnOk P w K mg base (CXR P w) k f fd ps sp'):FnOk P w K mg base (CXR P w) k f fd ps (λvs H Q E=>sp vs H Q E\/sp' vs H Q E):=by
 refine⟨λvs H Q E h=>h.elim (F.len vs H Q E) (G.len vs H Q E),λA outer s H args us vs Q E hr he hb hv h=>?_⟩
 rcases h with h | h
 ·refine codeAny_mono (F.run A outer s H args us vs Q E hr he hb hv h) λr s' q=>?_
  cases r with
  | error e=>exact q.elim
  | ok f=>cases f <;> exact q
 ·exact G.run A outer s H args us vs Q E hr he hb hv h
end
def dH (C:Addr) (fs:List (Str × V)) (H:Hp) (E:XK):Prop:=∀(a:Addr) (H':Hp),(∀b o,H b=some o->H' b=some o)->H a=none->XAt H' a C fs->E (.ref C) (some a) H'
inductive r9 (K:PySem.W.Frag) (f:Str) (vs:List V) (H:Hp) (Q:VK) (E:XK):Prop
 | mk (e C U:Addr) (v:V) (h1:vs=[.ref e,v]) (h2:H e=some (XO C e none)) (h3:XCls K C U) (h4:PySem.W.findIn K (.ref C) f=some none) (h5:∀d,H d=none->Q .non (upd (upd H d (.xd [(f,v)])) e (XO C e (some d)))):r9 K f vs H Q E
structure Rf1 (P:Program) (w:World) (K:PySem.W.Frag) (mg:Str->Option Value) (base:Heap) (x:Str) (C U:Addr) (f:Str) (fI:Addr) (fd:FuncData):Prop where
 ok:FnOk P w K mg base CX0 1 fI fd ["self", f] (r9 K f)
 nm:mg x=some (.ref C)
 init:‹(K,C,fI,"__init__")›
 fn:‹[K,fI]›
 bd:cj K fd ["self", f] []
 cl:XCls K C U
 nf:PySem.W.findIn K (.ref C) f=some none
theorem yf {K:W.Frag}{f:Str}:∀vs H Q E,r9 K f vs H Q E->vs.length<=100:=λvs H Q E h=>by
 obtain⟨e,C,U,v,rfl,_⟩:=h
 show 2<=100
 decide
theorem Ar {K:W.Frag}{C x d:Addr}{f:Str}{v:V}{H:Hp}{E:XK} (h:dH C [(f,v)] H E) (nx:H x=none) (nd:upd H x (XO C x none) d=none) :
  E (.ref C) (some x) (upd (upd (upd (upd H x (XO C x none)) d (.xd [(f,v)])) x (XO C x (some d))) x (XOn false C x (some d))):=by
 have dx:d≠x:=λz=>by rw [z,ae]at nd;cases nd
 have nd':H d=none:=by rw [ag dx]at nd;exact nd
 refine h x _ (λb o e=>?_) nx ⟨false,some d,ae,.inr ⟨d,rfl,?_⟩⟩
 ·have bx:=af e nx
  have bd:=af e nd'
  rw [ag bx,ag bx,ag bd,ag bx]
  exact e
 ·rw [ag dx,ag dx,ae]
section
variable {P:Program}{w:World}{K:W.Frag}{mg:Str->Option Value}{base:Heap}{N:List Str}{qual:Str}{scope:Scope}{f:Addr}{cd:Value}{A:Around}{outer:List Env}{s:Shared}{H:Hp}{E:XK}
theorem yP {x fn:Str}{C U fI:Addr}{fd:FuncData}{e:Expr}{te:TE}{p cpos pos:Pos} (M:Rf1 P w K mg base x C U fn fI fd) (hr:Room 2 (A.deeper (envOfC qual scope s.heap.objs.size f cd))) (hg:Gl (fm (CXR P w) P w K mg base N qual scope f cd A outer s H E) x)
  (he:PE (fm (CXR P w) P w K mg base N qual scope f cd A outer s H E) e te) (hse:starEach [e] (envOfC qual scope s.heap.objs.size f cd)=[(false,eval e (envOfC qual scope s.heap.objs.size f cd))]:=by rfl) (hdb:(x == ("__debug__" : Str))=false:=by decide) :
  PS (fm (CXR P w) P w K mg base N qual scope f cd A outer s H E) (.Raise (some (.Call (.Name x p) [e] [] cpos)) none pos) (oo K E (on C (r9 K fn) E0 (cW te gx))):=
 ur (uv M.cl M.init M.fn M.ok hr hg M.nm M.bd ao yf (aa he ad (hs:=hse)) hdb hse rfl)
end
theorem yJ {K:W.Frag}{E:XK}{C U:Addr}{fn:Str}{i:Nat}{v:V}{D:Ends}{σ:St}{H:Hp} (T:XCls K C U) (nf:PySem.W.findIn K (.ref C) fn=some none) (hv:σ[i]?=some (some v)) (h:dH C [(fn,v)] H E):oo K E (on C (r9 K fn) E0 (cW (eG i) gx)) D σ H:=
 ⟨v,hv,λx nx=>⟨x,C,U,v,rfl,ae,T,nf,λd nd=>⟨rfl,x,C,U,some d,rfl,ae,T,Ar (K:=K) h nx nd⟩⟩⟩
def jY (CX:CXT) (X:Cx) (E:St->XK):Prop:=∀(pins:List (Addr × Obj)) (σ:St) (H:Hp) (s:Shared) (e:Value) (s':Shared),Inv X pins σ H s->CX X.stack H s (E σ) e s'->X.xe e s'
noncomputable def yp (sp:Sp) (E:St->XK) (t:TA):TE:=λσ H Q=>t σ H λvs H1=>sp vs H1 Q (E σ)
noncomputable def A4 (tb:(St->XK)->TS) (th:TH):TS:=λD σ H=>∃E1:St->XK,tb E1 D σ H/\∀(C a:Addr) (Dd:Option Addr) (H':Hp) (σ':St),H' a=some (XOn false C a Dd)->E1 σ' (.ref C) (some a) H'->th a C D σ' H'
section
variable {X:Cx}{CX:CXT}{k:Nat}{f:Addr}{fd:FuncData}{ps:List Str}{sp:Sp}{E:St->XK}{x:Str}{p pos:Pos}{e:Expr}{es:List Expr}{t:TA}
theorem uC (F:FnOk X.prog X.w X.K X.mg X.base CX k f fd ps sp) (hr:Room k X.A) (hg:Gl X x) (hm:X.mg x=some (.ref f)) (hk:PySem.W.keepIn X.K (.ref f)=true) (hb:cj X.K fd ps []) (hx:jY CX X E)
  (ha:PA X (e::es) t) (hdb:(x == ("__debug__" : Str))=false:=by decide) (he:starEach (e::es) X.env=(false,eval e X.env)::starEach es X.env:=by rfl) (hpl:(backTo pos (starEach es X.env)).any (·.1)=false:=by rfl) :
  PE X (.Call (.Name x p) (e::es) [] pos) (yp sp E t):=by
 intro pins s σ H Q I h
 refine wpAny_Call_Name_kw (fV I hg hm ?_ hdb)
 refine PySem.W.callWith_K (h₀:=X.base) I.ok.mod.kin hk (thn (ha pos pins s σ H _ I h) λus s1 ⟨vs,H1,I1,r,q⟩=>⟨I1.kIn,?_⟩) he hpl
 have r2:aJ (vs++[]) (us++[]):=r.append .nil
 rw [<- List.append_nil vs]at q
 have hl:(us++[]).length=ps.length:=by rw [<- r2.length];exact F.len _ _ _ _ q
 refine wpAny_call (codeAny_mono (F.run X.A X.stack s1 H1 ⟨us,[]⟩ (us++[]) (vs++[]) Q (E σ) hr I1.env0 (hb s1 us I1.kIn hl) r2 q) λr s' hq=>?_)
 cases r with
 | error e=>exact hx pins σ H1 s1 e s' I1 hq
 | ok fl=>
  cases fl with
  | ret u=>exact I1.after hq
  | next=>exact False.elim hq
  | brk=>exact False.elim hq
  | cont=>exact False.elim hq
theorem wK {body:List Stmt}{h₀:ExceptHandler}{hs:List ExceptHandler}{pos:Pos}{tb:(St->XK)->TS}{th:TH} (hst:X.stack=X.env::X.outer) (hf:X.env.frame=some X.env.locals)
  (hb:∀(E1:St->XK) (xe':Value->Shared->Prop) (pn:List (Addr × Obj)),jY (CXR X.prog X.w) (X.tried xe' pn) E1->PSs (X.tried xe' pn) body (tb E1)) (hh:PH X (h₀::hs) th):PS X (.Try body (h₀::hs) [] [] pos) (A4 tb th):=by
 intro pins s σ H D I h
 obtain⟨E1,hb',hh'⟩:=h
 refine wpAny_Try_except ?_
 have hp:jY (CXR X.prog X.w) (X.tried (λe s₁=>wpAny (model X.prog X.w) X.A (noteFrame e X.env) (λ_ s₂=>wpAny (model X.prog X.w) X.A (setFlight e none) (λ_ s₃=>wpAny (model X.prog X.w) X.A (handleBy e X.env (h₀::hs)) (SP X pins D) X.xe s₃) X.xe s₂) X.xe s₁) (X.pn++pins)) E1:=by
  rintro pins' σ' H1 s1 e s2 J ⟨a,C,Dd,H2,rfl,fl,hx,os,bare,un,hok,q⟩
  have J2:=J.call' os un hok bare λb z=>nomatch (show b∈([]:List Addr) from z)
  have J3:Inv X pins σ' H2 s2:=J2.untry
  obtain⟨vs,he,_⟩:=im J3 hx
  show wpAny (model X.prog X.w) X.A (noteFrame (.ref a) X.env) _ _ s2
  refine xZ (base:=X.base) (L:=X.env.locals) (outer:=X.outer) (by rw [<- hst];exact J3.ok.frames) (by rw [<- hst];exact J3.stack) hf he rfl (.inr fl) λh' Nt=>?_
  obtain⟨vs',ha'⟩:=Nt.exc _ _ he rfl
  rw [<- hst]at Nt
  have J4:=J3.call (h':=h') (g':=s2.gens) (d':=s2.drawn) (t':=s2.toks) (uY Nt hx ⟨_,ha'⟩) (kU J3.hok Nt hx J3.stkFree) J3.bare λb z=>nomatch (show b∈([]:List Addr) from z)
  rw [mM hx]at J4
  exact hh pins _ σ' H2 D a C Dd J4 hx Nt.fly (hh' C a Dd H2 σ' hx q)
 refine wpAny_mono (hb E1 _ _ hp [] s σ H D (I.try' _) hb') (λf s1 q=>?_) λ_ _ z=>z
 cases f with
 | next=>obtain⟨σ',H',J,q⟩:=q;exact wpAny_execs_nil ⟨σ',H',J.untry,q⟩
 | brk=>obtain⟨σ',H',J,q⟩:=q;exact⟨σ',H',J.untry,q⟩
 | cont=>obtain⟨σ',H',J,q⟩:=q;exact⟨σ',H',J.untry,q⟩
 | ret u=>obtain⟨v,σ',H',J,r,q⟩:=q;exact⟨v,σ',H',J.untry,r,q⟩
end
end L2
namespace Mine
open PySem L2
variable {P:Program}{w:World}{K:W.Frag}{mg:Str->Option Value}{base:Heap}
def sK (H:Hp) (v:V):Prop:=v=.non\/(∃c,v=.bl c)\/(∃x,v=.str x)\/(∃r xs,v=.ref r/\H r=some (.lst xs))\/∃r xs,v=.ref r/\H r=some (.tup xs)
def iW (H:Hp) (lo hi:Int) (v:V):Prop:=sK H v\/∃i,v=.int i/\(decide (lo<=i) && decide (i<=hi))=false
theorem sK.grow {H H':Hp}{v:V} (h:sK H v) (g:aq H H'):sK H' v:=by
 rcases h with h | h | h | ⟨r,xs,e,h⟩ | ⟨r,xs,e,h⟩
 ·exact .inl h
 ·exact .inr (.inl h)
 ·exact .inr (.inr (.inl h))
 ·exact .inr (.inr (.inr (.inl ⟨r,xs,e,g _ _ h⟩)))
 ·exact .inr (.inr (.inr (.inr ⟨r,xs,e,g _ _ h⟩)))
theorem iW.grow {H H':Hp}{lo hi:Int}{v:V} (h:iW H lo hi v) (g:aq H H'):iW H' lo hi v:=h.imp (·.grow g) id
theorem or0 {P:Program}{w:World}{K:W.Frag}{mg:Str->Option Value}{base:Heap}{CX:CXT}{k:Nat}{f:Addr}{fd:FuncData}{ps:List Str}{sp sp':Sp} (F:FnOk P w K mg base CX k f fd ps sp) (G:FnOk P w K mg base CX k f fd ps sp'):FnOk P w K mg base CX k f fd ps (λvs H Q E=>sp vs H Q E\/sp' vs H Q E):=
 ⟨λvs H Q E h=>h.elim (F.len vs H Q E) (G.len vs H Q E),λA outer s H args us vs Q E hr he hb hv h=>h.elim (F.run A outer s H args us vs Q E hr he hb hv) (G.run A outer s H args us vs Q E hr he hb hv)⟩
structure CalX (P:Program) (w:World) (K:PySem.W.Frag) (mg:Str->Option Value) (base:Heap) (x:Str) (k:Nat) (ps:List Str) (sp:Sp) (f:Addr) (fd:FuncData):Prop where
 ok:FnOk P w K mg base (CXR P w) k f fd ps sp
 nm:mg x=some (.ref f)
 kp:PySem.W.keepIn K (.ref f)=true
 bd:cj K fd ps []
structure MCX (P:Program) (w:World) (K:PySem.W.Frag) (mg:Str->Option Value) (base:Heap) (C:Addr) (m:Str) (k:Nat) (ps:List Str) (ds:List Value) (dvs:List V) (sp:Sp) (f:Addr) (fd:FuncData):Prop where
 cl:Cls K C
 mt:Meth K C m f
 ok:FnOk P w K mg base (CXR P w) k f fd ps sp
 bd:cj K fd ps ds
 dv:aJ dvs ds
noncomputable def tq:Sp:=λvs H Q _=>∃v l h:V,vs=[v,l,h]/\sK H v/\Q (.bl false) H
noncomputable def jh:Sp:=λvs H Q _=>∃(v:V) (lo hi:Int),vs=[v,.int lo,.int hi]/\((∃i,v=.int i/\Q (.bl (decide (lo<=i) && decide (i<=hi))) H)\/(sK H v/\Q (.bl false) H))
theorem sJ {H:Hp}{lo hi:Int}{v:V}{Q:VK}{E:XK} (h:iW H lo hi v) (q:Q (.bl false) H):jh [v,.int lo,.int hi] H Q E:=by
 rcases h with h | ⟨i,rfl,e⟩
 ·exact⟨v,lo,hi,rfl,.inr ⟨h,q⟩⟩
 ·exact⟨_,lo,hi,rfl,.inl ⟨i,rfl,by rw [e];exact q⟩⟩
theorem rM {f:Addr}{fd:FuncData} (F:Fun K "is_whole" "is_whole" fE f fd) (N:Free mg):FnOk P w K mg base CX0 1 f fd ["thing", "low", "high"] tq:=by
 refine F.ok (k:=0) kK (λvs H Q E h=>?_) (λcdv A outer s H vs Q E hr h=>?_)
 ·obtain⟨v,l,h,rfl,_⟩:=h
  rfl
 ·obtain⟨v,l,h,rfl,hv,q⟩:=h
  have hu:=aS hr
  refine⟨_,(aj (az (da (aG bS (by rfl) N.isinstance PyProof.Rows.Boot.«isinstance» (aa (pv 0) (aa (de (v:=.ty "int") (by rfl) N.int PyProof.Rows.Boot.«int» rfl) ad))) (da (p5 (aG bS (by rfl) N.isinstance PyProof.Rows.Boot.«isinstance» (aa (pv 0) (aa (de (v:=.ty "bool") (by rfl) N.bool PyProof.Rows.Boot.«bool» rfl) ad)))) (eJ (jA fi fi (pv 1) (pv 0) (pv 2))))))),?_⟩
  rcases hv with rfl | ⟨c,rfl⟩ | ⟨x,rfl⟩ | ⟨r,xs,rfl,hx⟩ | ⟨r,xs,rfl,hx⟩
  ·exact⟨_,rfl,.non,"int", _,false,rfl,.non,by rfl,_,rfl,b9 q⟩
  ·exact⟨_,rfl,.bl c,"int", _,true,rfl,.bl c,by rfl,_,rfl,bT ⟨_,rfl,.bl c,"bool", _,true,rfl,.bl c,by rfl,_,rfl,_,rfl,b9 q⟩⟩
  ·exact⟨_,rfl,.str x,"int", _,false,rfl,.str x,by rfl,_,rfl,b9 q⟩
  ·exact⟨_,rfl,.ref r,"int", _,false,rfl,.lst hx,by rfl,_,rfl,b9 q⟩
  ·exact⟨_,rfl,.ref r,"int", _,false,rfl,.tup hx,by rfl,_,rfl,b9 q⟩
theorem rN {f:Addr}{fd:FuncData} (F:Fun K "is_whole" "is_whole" fE f fd) (N:Free mg):FnOk P w K mg base CX0 1 f fd ["thing", "low", "high"] jh:=
 (or0 (jD F N) (rM F N)).imp λvs H Q E h=>by
  obtain⟨v,lo,hi,rfl,h⟩:=h
  rcases h with⟨i,rfl,q⟩ | ⟨h,q⟩
  ·exact .inl ⟨i,lo,hi,rfl,q⟩
  ·exact .inr ⟨v,_,_,rfl,h,q⟩
theorem bkg {C:Addr}{H H':Hp}{p:Addr}{a:BA}{F:Addr->Prop}{B:Bk} (h:BkAt C H p a F B) (g:aq H H'):BkAt C H' p a F B:=h.keep ⟨λb o _ e=>g b o e,λb xs e=>g b _ e,λb c dx fs e=>g b _ e⟩
noncomputable def mW (C CT:Addr):Sp:=λvs H _ E=>∃(p:Addr) (a:BA) (F:Addr->Prop) (B:Bk) (v:V),vs=[.ref p,v]/\BkT C H p a F B/\v≠.non/\iW H 0 (B.ds.length:Int) v/\dH CT [("turn", v)] H E
noncomputable def mX (C CT:Addr):Sp:=λvs H Q E=>lO C vs H Q E\/mW C CT vs H Q E
noncomputable def mT (C CT:Addr):Sp:=λvs H _ E=>∃(p:Addr) (a:BA) (F:Addr->Prop) (B:Bk) (k:Str) (vt:V),vs=[.ref p,.str k,vt]/\BkAt C H p a F B/\k∈B.ks/\vt≠.non/\iW H 0 (B.ds.length:Int) vt/\dH CT [("turn", vt)] H E
noncomputable def mV (C CT:Addr):Sp:=λvs H Q E=>iX C vs H Q E\/mT C CT vs H Q E
inductive UnX (B:Bk) (v1 v2:V) (CT:Addr) (H:Hp) (E:XK):Prop
 | one (h1:v1≠.non) (h2:iW H 0 (B.ds.length:Int) v1) (h3:dH CT [("turn", v1)] H E):UnX B v1 v2 CT H E
 | two (t:Nat) (h0:Turn B v1 t) (h1:v2≠.non) (h2:iW H 0 (B.ds.length:Int) v2) (h3:dH CT [("turn", v2)] H E):UnX B v1 v2 CT H E
noncomputable def jj (C CT:Addr):Sp:=λvs H _ E=>∃(p:Addr) (a:BA) (F:Addr->Prop) (B:Bk) (v1 v2:V),vs=[.ref p,v1,v2]/\BkAt C H p a F B/\UnX B v1 v2 CT H E
theorem gY {C:Addr}{fs:List (Str × V)}{H H':Hp}{E:XK} (h:dH C fs H E) (g:aq H H'):dH C fs H' E:=λa H2 g2 n x=>h a H2 (λb o e=>g2 _ _ (g _ _ e)) (g.free n) x
theorem UnX.grow {B:Bk}{v1 v2:V}{CT:Addr}{H H':Hp}{E:XK} (h:UnX B v1 v2 CT H E) (g:aq H H'):UnX B v1 v2 CT H' E:=by
 rcases h with⟨h1,h2,h3⟩ | ⟨t,h0,h1,h2,h3⟩
 ·exact .one h1 (h2.grow g) (gY h3 g)
 ·exact .two t h0 h1 (h2.grow g) (gY h3 g)
theorem rQ {f C f1 f2 f3 C3 U:Addr}{fd:FuncData} (F:Fun K "turn_meant" "Book.turn_meant" lU f fd) (T:BkC K C){fd1:FuncData} (MN:MC P w K mg base C "now" 1 ["self"] [] [] (iM C) f1 fd1){fd2:FuncData} (CW:Cal P w K mg base "is_whole" 1 ["thing", "low", "high"] jh f2 fd2){fd3:FuncData} (RT:Rf1 P w K mg base "NoTurn" C3 U "turn" f3 fd3):FnOk P w K mg base (CXR P w) 3 f fd ["self", "turn"] (mW C C3):=by
 refine F.okX (k:=2) qt (λvs H Q E h=>?_) (λcdv A outer s H vs Q E hr h=>?_)
 ·obtain⟨p,a,F,B,v,rfl,_⟩:=h
  rfl
 ·obtain⟨p,a,F,B,v,rfl,h,hv,hb,q⟩:=h
  have hu:=aS hr
  refine⟨_,(ah (aW (eX (iw (pv 1))) (aj (az (bY (pv 0) MN.cl MN.mt MN.ok (hr.mono (by decide)) MN.bd MN.dv ao))) aF)
   (ah (aW (bV (bL (am CW.ok (hr.mono (by decide)) rfl CW.nm CW.kp CW.bd .nil ao (aa (pv 1) (aa ai (aa (bY (pv 0) MN.cl MN.mt MN.ok (hr.mono (by decide)) MN.bd MN.dv ao) ad)))))) (aj (yP RT (hr.mono (by decide)) rfl (pv 1))) aF)
   (aj (az (pv 1))))),?_⟩
  obtain⟨dx,ho⟩:=h.ob
  refine au (c4 ⟨_,rfl,_,rfl,?_⟩)
  rw [decide_eq_false hv]
  refine b9 (bi ?_)
  dsimp only
  refine au (c4 ⟨_,rfl,_,rfl,p,dx,_,rfl,ho,bU a ‹0› ‹0› ‹0› ‹0› ‹0›,p,a,F,B,rfl,h,?_⟩)
  try dsimp only [gx,cW,tC,List.cons_append,List.nil_append,List.append_nil]
  exact sJ hb ⟨_,rfl,bT (yJ RT.cl RT.nf rfl q)⟩
theorem rP {f C CT f1 f2:Addr}{fd:FuncData}{dV:Value} (F:FunD K "table" "Book.table" lT dV f fd) (N:Free mg) (T:BkC K C){fd1:FuncData} (MY:MC P w K mg base C "check_key" 3 ["self", "key"] [] [] (gS C) f1 fd1){fd2:FuncData} (MT:MCX P w K mg base C "turn_meant" 3 ["self", "turn"] [] [] (mX C CT) f2 fd2):FnOk P w K mg base (CXR P w) 4 f fd ["self", "key", "turn"] (mT C CT):=by
 refine F.okX (k:=3) qr (λvs H Q E h=>?_) (λcdv A outer s H vs Q E hr h=>?_)
 ·obtain⟨p,a,F,B,k,vt,rfl,_⟩:=h
  rfl
 ·obtain⟨p,a,F,B,k,vt,rfl,h,hk,hv,hb,q⟩:=h
  have hu:=aS hr
  refine⟨_,(ah (aM (bQ (pv 0) MY.cl MY.mt MY.ok (hr.mono (by decide)) MY.bd MY.dv ao (aa (pv 1) ad)))
   (aj (az (cI cU (by rfl) N.list PyProof.Rows.Boot.«list» (aa (bH hu (aH aR (bZ (pv 0) rfl) (bQ (pv 0) MT.cl MT.mt MT.ok (hr.mono (by decide)) MT.bd MT.dv kS (aa (pv 2) ad)) (λ_ _=>rfl)) (pv 1) (λ_ _=>rfl)) ad))))),?_⟩
  obtain⟨dx,ho⟩:=h.ob
  obtain⟨ts,e3,l3,r3⟩:=h.ht
  refine au (cQ ⟨_,rfl,p,dx,_,rfl,ho,bU a ‹0› ‹0› ‹0› ‹0› ‹0›,_,rfl,p,a,F,B,k,rfl,h.toT,hk,?_⟩)
  dsimp only
  refine bA ⟨_,rfl,p,C,dx,_,_,rfl,ho,T.cl,T.n5,xJ a,_,rfl,p,dx,_,rfl,ho,bU a ‹0› ‹0› ‹0› ‹0› ‹0›,_,rfl,?_⟩
  exact .inr ⟨p,a,F,B,vt,rfl,h.toT,hv,hb,q⟩
theorem p7 {f f1 f2 f3 C CT:Addr}{fd:FuncData} (F:Fun K "unlike" "unlike" iZ f fd) (N:Con mg){fd1:FuncData} (ML:MC P w K mg base C "all_keys" 1 ["self"] [] [] (tL C) f1 fd1){fd2:FuncData} (T2:MCX P w K mg base C "table" 4 ["self", "key", "turn"] [] [] (mV C CT) f2 fd2){fd3:FuncData} (CS:Cal P w K mg base "side_by_side" 6 ["one", "other", "first", "last"] (lM L) f3 fd3):FnOk P w K mg base (CXR P w) 7 f fd ["book", "one", "other"] (jj C CT):=by
 obtain⟨t1,c1⟩:=N.lastday
 refine F.okX (k:=6) bN (λvs H Q E h=>?_) (λcdv A outer s H vs Q E hr h=>?_)
 ·obtain⟨p,a,F,B,v1,v2,rfl,_⟩:=h
  rfl
 ·obtain⟨p,a,F,B,v1,v2,rfl,h,q⟩:=h
  have hu:=aS hr
  refine⟨_,(ah (aB (i:=3) bN.nd rfl (Or.inl rfl) (be ad))
   (ah (bP PassesOwn.leaving rfl (bC (bY (pv 0) ML.cl ML.mt ML.ok (hr.mono (by decide)) ML.bd ML.dv ao)) (ay (i:=4) bN.nd rfl (Or.inl rfl))
   (ah (aB (i:=5) bN.nd rfl (Or.inl rfl) (bQ (pv 0) T2.cl T2.mt T2.ok (hr.mono (by decide)) T2.bd T2.dv kS (aa (pv 4) (aa (pv 1) ad))))
   (aj (bP PassesOwn.leaving rfl (bC (am CS.ok (hr.mono (by decide)) rfl CS.nm CS.kp CS.bd .nil ao (aa (pv 5) (aa (bQ (pv 0) T2.cl T2.mt T2.ok (hr.mono (by decide)) T2.bd T2.dv kS (aa (pv 4) (aa (pv 2) ad))) (aa ai (aa (dc (v:=.int 399) (by rfl) c1 ⟨_,rfl⟩) ad)))))) (cR rfl (aA (ay (i:=6) bN.nd rfl (Or.inl rfl)) (aA (ay (i:=7) bN.nd rfl (Or.inl rfl)) (aA (ay (i:=8) bN.nd rfl (Or.inl rfl)) (aA (ay (i:=9) bN.nd rfl (Or.inl rfl)) cg)))))
   (aj (aW (aQ qy (pv 8) (pv 9) (aN _)) (aj (aM (cT PySem.F.plainAttrs_list PySem.F.slot_list_append PySem.F.type_list_append b8 (pv 3) (aa (bz (aa (pv 4) (aa (pv 6) (aa (pv 7) (aa (pv 8) (aa (pv 9) ad)))))) ad)))) aF))))))
   (aj (az (pv 3))))),?_⟩
  obtain⟨dx,ho⟩:=h.ob
  have O:=h.ok
  have k1:=O.k1
  refine au (aI ⟨Nat.zero_le _,λbl nbl=>?_⟩)
  have g1:aq H (upd H bl (.lst [])):=aq.new nbl
  generalize upd H bl (.lst [])=H1 at g1
  dsimp only [aK]
  refine au ?_
  refine⟨_,rfl,p,dx,_,rfl,g1 _ _ ho,bU a ‹0› ‹0› ‹0› ‹0› ‹0›,p,a,F,B,rfl,bkg h g1,λkl nkl=>?_⟩
  have g2:aq H (upd H1 kl (.lst (B.ks.map V.str))):=g1.trans (aq.new nkl)
  have ek:upd H1 kl (.lst (B.ks.map V.str)) kl=some (.lst (B.ks.map V.str)):=ae
  generalize upd H1 kl (.lst (B.ks.map V.str))=H2 at g2 ek
  refine⟨kl,rfl,⟨_,SqL.of ek⟩,bO (K:=K) (a:=kl) (xs:=B.ks.map V.str) (λi σ H3=>i=0/\H3=H2/\σ=[some (.ref p),some v1,some v2,some (.ref bl),none,none,none,none,none,none]) ⟨rfl,rfl,rfl⟩ (λi σ H3 _ hh=>by rw [hh.2.1];exact SqL.of ek) ?_ ?_⟩
  ·rintro i y σ H3 hi ⟨rfl,rfl,rfl⟩
   rw [List.getElem?_map]at hi
   obtain⟨k,hk,rfl⟩:=Option.map_eq_some_iff.mp hi
   have hkm:=List.mem_of_getElem? hk
   dsimp only [aK]
   refine au (aI ⟨_,rfl,p,dx,_,rfl,g2 _ _ ho,bU a ‹0› ‹0› ‹0› ‹0› ‹0›,_,rfl,_,rfl,?_⟩)
   rcases q with⟨h1,h2,h3⟩ | ⟨t,⟨t0,t1⟩,h1,h2,h3⟩
   ·exact .inr ⟨p,a,F,B,k,v1,rfl,bkg h g2,hkm,h1,h2.grow g2,gY h3 g2⟩
   ·refine .inl ⟨p,a,F,B,k,v1,t,rfl,(bkg h g2).toT,hkm,t0,t1,λl1 ps1 rs1 nl1 hp1 td1 i41 dy1=>?_⟩
    have g4:=g2.trans (aq.new (o:=.lst (ps1.map V.ref)) nl1)
    generalize upd H3 l1 (.lst (ps1.map V.ref))=H4 at g4
    dsimp only [aK]
    refine⟨_,rfl,_,rfl,p,dx,_,rfl,g4 _ _ ho,bU a ‹0› ‹0› ‹0› ‹0› ‹0›,_,rfl,_,rfl,?_⟩
    exact .inr ⟨p,a,F,B,k,v2,rfl,bkg h g4,hkm,h1,h2.grow g4,gY h3 g4⟩
  ·rintro σ H3 ⟨z,_⟩
   rw [List.length_map]at z
   omega
theorem uL {f f1 f2 f3 C CT:Addr}{fd:FuncData} (F:Fun K "unlike_values" "unlike_values" qu f fd){fd1:FuncData} (CU:CalX P w K mg base "unlike" 7 ["book", "one", "other"] (jj C CT) f1 fd1){fd2:FuncData} (CV:Cal P w K mg base "value_of" 4 ["book", "number"] (lL C) f2 fd2){fd3:FuncData} (CP:Cal P w K mg base "put_behind" 2 ["boxes", "box"] oB f3 fd3):FnOk P w K mg base (CXR P w) 8 f fd ["book", "one", "other"] (jj C CT):=by
 refine F.okX (k:=7) cb (λvs H Q E h=>?_) (λcdv A outer s H vs Q E hr h=>?_)
 ·obtain⟨p,a,F,B,v1,v2,rfl,_⟩:=h
  rfl
 ·obtain⟨p,a,F,B,v1,v2,rfl,h,q⟩:=h
  have hu:=aS hr
  refine⟨_,(ah (aB (i:=3) cb.nd rfl (Or.inl rfl) (be ad))
   (ah (bP PassesOwn.leaving rfl (bC (am CU.ok (hr.mono (by decide)) rfl CU.nm CU.kp CU.bd .nil kS (aa (pv 0) (aa (pv 1) (aa (pv 2) ad))))) (cR rfl (aA (ay (i:=4) cb.nd rfl (Or.inl rfl)) (aA (ay (i:=5) cb.nd rfl (Or.inl rfl)) (aA (ay (i:=6) cb.nd rfl (Or.inl rfl)) (aA (ay (i:=7) cb.nd rfl (Or.inl rfl)) (aA (ay (i:=8) cb.nd rfl (Or.inl rfl)) cg))))))
   (ah (aB (i:=9) cb.nd rfl (Or.inl rfl) (am CV.ok (hr.mono (by decide)) rfl CV.nm CV.kp CV.bd .nil ao (aa (pv 0) (aa (pv 7) ad))))
   (ah (aB (i:=10) cb.nd rfl (Or.inl rfl) (am CV.ok (hr.mono (by decide)) rfl CV.nm CV.kp CV.bd .nil ao (aa (pv 0) (aa (pv 8) ad))))
   (aj (aW (aQ qy (pv 9) (pv 10) (aN _)) (aj (aM (am CP.ok (hr.mono (by decide)) rfl CP.nm CP.kp CP.bd .nil ao (aa (pv 3) (aa (bz (aa (pv 4) (aa (pv 5) (aa (pv 6) (aa (pv 9) (aa (pv 10) ad)))))) ad))))) aF)))))
   (aj (az (pv 3))))),?_⟩
  refine au (aI ⟨Nat.zero_le _,λbl nbl=>?_⟩)
  have g1:aq H (upd H bl (.lst [])):=aq.new nbl
  generalize upd H bl (.lst [])=H1 at g1
  dsimp only [aK]
  refine au ?_
  exact⟨_,rfl,_,rfl,_,rfl,p,a,F,B,v1,v2,rfl,bkg h g1,q.grow g1⟩
noncomputable abbrev jq:Stmt:=top 52
theorem vx {B:Bk} (O:B.Ok) (n:Nat):(valV B.gs (Sum.inl (n:Int))).getD (.int 99)=.int (dr B.gs n):=by
 rcases O.gone n with⟨e1,e2⟩ | ⟨t,e1,e2,_⟩
 ·rw [e1,e2];rfl
 ·rw [e1,e2];rfl
theorem nW {fs:List Fnd}{c:Nat->Fnd->Bool}{i:Nat}{f:Fnd} (e:fs[i]?=some f):c7 fs c (i+1)=if c i f=true then some (i:Int) else c7 fs c i:=by
 conv=>lhs;unfold c7
 rw [e]
theorem vq {H H2:Hp}{a:Addr}{o:HO} (g:aq H H2) (n:H a=none):aq H (upd H2 a o):=λb o e=>by rw [ag (af e n)];exact g b o e
noncomputable def whoD (B:Bk) (k:Str) (t:Int) (i:Nat) (d:Int):V:=((c7 B.fs (cN B.gs k t d) i).map V.int).getD .non
theorem AO (B:Bk) (k:Str) (t:Int):(List.replicate (400:Int).toNat [V.non]).flatten=Strip.dayL (whoD B k t 0):=by
 have:=Strip.dayL_put (λ_=>V.non) (f:=0) (l:=399) (by decide) (by decide) (by decide) .non
 rw [show (399+1 - 0:Int).toNat=(400:Int).toNat from rfl]at this
 have e1:(Strip.dayL λ_=>V.non).take (0:Int).toNat=[]:=rfl
 have e2:(Strip.dayL λ_=>V.non).drop (399+1:Int).toNat=[]:=List.drop_eq_nil_of_le (by rw [Strip.dayL_len];decide)
 rw [e1,e2,List.nil_append,List.append_nil]at this
 rw [this]
 congr 1
 funext n
 split <;> rfl
theorem vY {B:Bk}{k:Str}{t:Int}{i:Nat}{r:Fnd} (er:B.fs[i]?=some r) (h:∀d,cN B.gs k t d i r=false):whoD B k t (i+1)=whoD B k t i:=by
 funext d
 unfold whoD
 rw [nW er,h d];rfl
theorem yZ {H H2:Hp}{dl:Addr}{g:Int->V}{f l:Int}{v:V} (nd0:H dl=none) (g2:aq H H2) (h2:H2 dl=some (.lst (Strip.dayL g))) (f0:0<=f) (fl:f<=l) (l4:l < 400){p1:Addr} (n1:H2 p1=none){p2:Addr} (n2:upd H2 p1 (.lst [v]) p2=none) :
  aq H (upd (upd (upd H2 p1 (.lst [v])) p2 (.lst (List.replicate (l+1 - f).toNat [v]).flatten)) dl (.lst ((Strip.dayL g).take f.toNat++(List.replicate (l+1 - f).toNat [v]).flatten++(Strip.dayL g).drop (l+1).toNat)))/\
  upd (upd (upd H2 p1 (.lst [v])) p2 (.lst (List.replicate (l+1 - f).toNat [v]).flatten)) dl (.lst ((Strip.dayL g).take f.toNat++(List.replicate (l+1 - f).toNat [v]).flatten++(Strip.dayL g).drop (l+1).toNat)) dl=some (.lst (Strip.dayL λn=>if f<=n/\n<=l then v else g n))/\
  upd (upd H2 p1 (.lst [v])) p2 (.lst (List.replicate (l+1 - f).toNat [v]).flatten) dl=some (.lst (Strip.dayL g))/\dl≠p2:=by
 have x1:dl≠p1:=af h2 n1
 have y1:upd H2 p1 (.lst [v]) dl=some (.lst (Strip.dayL g)):=by rw [ag x1];exact h2
 have x2:dl≠p2:=af y1 n2
 have y2:upd (upd H2 p1 (.lst [v])) p2 (.lst (List.replicate (l+1 - f).toNat [v]).flatten) dl=some (.lst (Strip.dayL g)):=by rw [ag x2];exact y1
 exact⟨vq ((g2.trans (aq.new n1)).trans (aq.new n2)) nd0,by rw [ae,Strip.dayL_put g f0 fl l4],y2,x2⟩
noncomputable def kH:Sp:=λvs H Q _=>∃(s:SA) (B:Bk) (k:Str) (t:Int),vs=[.ref s.d,.str k,.int t]/\StAt H s B/\B.Ok/\∀(dl:Addr) (H':Hp),H dl=none->aq H H'->H' dl=some (.lst (Strip.dayL (whoD B k t B.fs.length)))->Q (.ref dl) H'
theorem fS:FnScope ["_law_state_here", "_law_key", "_law_turn_here", "_law_days", "_law_number", "_law_row"] ["_law_state_here", "_law_key", "_law_turn_here"] (al jq):=‹2›
theorem p9 {f:Addr}{fd:FuncData} (F:Fun K "_law_painted" "_law_painted" jq f fd) (N:Free mg):FnOk P w K mg base CX0 1 f fd ["_law_state_here", "_law_key", "_law_turn_here"] kH:=by
 refine F.ok (k:=0) fS (λvs H Q E h=>?_) (λcdv A outer s H vs Q E hr h=>?_)
 ·obtain⟨s,B,k,t,rfl,_⟩:=h
  rfl
 ·obtain⟨s,B,k,t,rfl,h,O,q⟩:=h
  have hu:=aS hr
  refine⟨_,(ah (aB (i:=3) fS.nd rfl (Or.inl rfl) (aE uG (be (aa gC ad)) ai))
   (ah (bP PassesOwn.never rfl (mf rfl N.enumerate (aa (bH hu (pv 0) bh (λ_ _=>rfl)) ad)) (cR rfl (aA (ay (i:=4) fS.nd rfl (Or.inl rfl)) (aA (ay (i:=5) fS.nd rfl (Or.inl rfl)) cg)))
   (aj (aW (PW.pt (dz (aQ dB (aH bf (pv 5) ai (λ_ _=>rfl)) (pv 1) (aN _)) (dz (aQ fi (aH bf (pv 5) ai (λ_ _=>rfl)) (pv 2) (aN _)) (dC (aQ uH (ux hu (bH hu (pv 0) bh (λ_ _=>rfl)) (pv 4) ai ⟨rfl,rfl,rfl,rfl⟩) (pv 2) (aN _)))))) (aj (iu (aE uG (be (aa (pv 4) ad)) (aE eY (aE bB (aH bf (pv 5) ai (λ_ _=>rfl)) ai) (aH bf (pv 5) ai (λ_ _=>rfl)))) (uu (pv 3) (aH bf (pv 5) ai (λ_ _=>rfl)) (aE bB (aH bf (pv 5) ai (λ_ _=>rfl)) ai)))) aF)))
   (aj (az (pv 3))))),?_⟩
  obtain⟨ps,e1,r1⟩:=id h.hf
  have lps:ps.length=B.fs.length:=Paired.length r1
  have stG:∀{H2:Hp},aq H H2->StAt H2 s B:=λg=>h.keep (λb o _ e=>g b o e) λb xs e=>g b _ e
  have z400:1000<=sizeLine:=by decide
  refine au (aI ?_)
  refine⟨by show 1<=sizeLine;decide,λw0 nw0=>?_⟩
  refine⟨w0,400,_,rfl,rfl,ae,by decide,by decide,by show 1 * 400<=sizeLine;omega,λdl ndl=>?_⟩
  rw [AO B k t]
  have g0:aq H (upd H w0 (.lst [V.non])):=aq.new nw0
  have nd0:H dl=none:=g0.free ndl
  have g1:=g0.trans (aq.new (o:=.lst (Strip.dayL (whoD B k t 0))) ndl)
  have hd1:upd (upd H w0 (.lst [V.non])) dl (.lst (Strip.dayL (whoD B k t 0))) dl=some (.lst (Strip.dayL (whoD B k t 0))):=ae
  generalize upd (upd H w0 (.lst [V.non])) dl (.lst (Strip.dayL (whoD B k t 0)))=H1 at g1 hd1
  dsimp only [aK]
  refine au ?_
  refine⟨_,rfl,s.d,_,rfl,(stG g1).d_f,s.f,rfl,⟨_,SqL.of (g1 _ _ e1)⟩,nY (K:=K) (a:=s.f) (xs:=ps.map V.ref) (λi σ H2=>∃(v5 v6:Option V),σ=[some (.ref s.d),some (.str k),some (.int t),some (.ref dl),v5,v6]/\aq H H2/\H2 dl=some (.lst (Strip.dayL (whoD B k t i))))
   ⟨none,none,rfl,g1,hd1⟩ (λi σ H2 _ hh=>?_) ?_ ?_⟩
  ·obtain⟨_,_,_,g,_⟩:=hh
   exact SqL.of (g _ _ e1)
  ·rintro i y σ H2 tt hi ⟨v5,v6,rfl,g2,hd2⟩ nt
   rw [List.getElem?_map]at hi
   cases ep:ps[i]? with
   | none=>rw [ep]at hi;cases hi
   | some x=>
    rw [ep]at hi
    cases hi
    obtain⟨r,er,ht0⟩:=c9 r1 ep
    have g3:aq H (upd H2 tt (.tup [.int (i:Int),.ref x])):=g2.trans (aq.new nt)
    have hd3:upd H2 tt (.tup [.int (i:Int),.ref x]) dl=some (.lst (Strip.dayL (whoD B k t i))):=by rw [ag (af hd2 nt)];exact hd2
    refine⟨tt,_,rfl,SqT.of ae,rfl,_,_,rfl,_,_,rfl,rfl,?_⟩
    dsimp only
    generalize upd H2 tt (.tup [.int (i:Int),.ref x])=H3 at g3 hd3
    have hx:=g3 _ _ ht0
    have S3:=stG g3
    obtain⟨_,f0,f1,f2,_⟩:=O.fin r (List.mem_of_getElem? er)
    have no:(∀d,cN B.gs k t d i r=false)->∃(v5 v6:Option V),[some (V.ref s.d),some (.str k),some (.int t),some (.ref dl),some (.int (i:Int)),some (.ref x)]=[some (V.ref s.d),some (.str k),some (.int t),some (.ref dl),v5,v6]/\aq H H3/\H3 dl=some (.lst (Strip.dayL (whoD B k t (i+1)))):=λz=>⟨_,_,rfl,g3,by rw [vY er z];exact hd3⟩
    refine c4 ?_
    refine⟨_,rfl,x,_,0,V.str r.1,rfl,rfl,SqT.of hx,rfl,_,rfl,rfl,_,rfl,?_⟩
    by_cases h1:r.1=k
    ·rw [show decide (V.str r.1=V.str k)=true by rw [h1,decide_eq_true rfl]]
     refine bT ⟨_,rfl,x,_,4,V.int r.2.2.2.2,rfl,rfl,SqT.of hx,rfl,_,rfl,_,_,rfl,rfl,_,rfl,?_⟩
     by_cases h2:r.2.2.2.2<=t
     ·rw [decide_eq_true h2]
      refine bT ⟨_,rfl,s.d,_,rfl,S3.d_g,s.g,rfl,.inl ⟨_,.inl S3.hg⟩,_,rfl,_,cB.k (k:=Sum.inl _) S3.hg,_,rfl,_,_,vx O i,rfl,_,rfl,?_⟩
      by_cases h3:t < dr B.gs i
      ·rw [decide_eq_true h3]
       refine bT (aI ?_)
       refine⟨_,rfl,by show 1<=sizeLine;decide,λp1 n1=>?_⟩
       have hx1:upd H3 p1 (.lst [V.int (i:Int)]) x=some (.tup (lH r)):=by rw [ag (af hx n1)];exact hx
       refine⟨_,rfl,x,_,2,V.int r.2.2.1,rfl,rfl,SqT.of hx1,rfl,_,_,rfl,rfl,_,rfl,x,_,1,V.int r.2.1,rfl,rfl,SqT.of hx1,rfl,_,_,rfl,rfl,p1,_,_,rfl,rfl,ae,by omega,by omega,?_,λp2 n2=>?_⟩
       ·show 1 * (r.2.2.1+1 - r.2.1).toNat<=sizeLine
        omega
       obtain⟨k1,k2,k3,k4⟩:=yZ nd0 g3 hd3 f0 f1 f2 n1 n2
       have hx2:upd (upd H3 p1 (.lst [V.int (i:Int)])) p2 (.lst (List.replicate (r.2.2.1+1 - r.2.1).toNat [V.int (i:Int)]).flatten) x=some (.tup (lH r)):=by rw [ag (af hx1 n2)];exact hx1
       refine⟨_,rfl,_,rfl,x,_,1,V.int r.2.1,rfl,rfl,SqT.of hx2,rfl,_,rfl,x,_,2,V.int r.2.2.1,rfl,rfl,SqT.of hx2,rfl,_,_,rfl,rfl,dl,p2,_,_,r.2.1,r.2.2.1+1,rfl,rfl,rfl,rfl,k3,ae,k4,f0,by omega,by rw [Strip.dayL_len];omega,?_,_,_,rfl,k1,?_⟩
       ·rw [Strip.dayL_len,qB]
        show 400+(r.2.2.1+1 - r.2.1).toNat * 1<=sizeLine
        omega
       ·rw [k2]
        congr 2
        congr 1
        funext d
        unfold whoD
        rw [nW er]
        have ec:cN B.gs k t d i r=(decide (r.2.1<=d) && decide (d<=r.2.2.1)):=by
         unfold cN
         rw [decide_eq_true h1,decide_eq_true h2,decide_eq_true h3];rfl
        by_cases c:r.2.1<=d/\d<=r.2.2.1
        ·rw [if_pos c,ec,decide_eq_true c.1,decide_eq_true c.2];rfl
        ·have:cN B.gs k t d i r=false:=by
          rw [ec]
          by_cases c1:r.2.1<=d
          ·rw [decide_eq_false (λc2:d<=r.2.2.1=>c ⟨c1,c2⟩),Bool.and_false]
          ·rw [decide_eq_false c1,Bool.false_and]
         rw [if_neg c,this];rfl
      ·rw [decide_eq_false h3]
       exact b9 (bi (no λd=>by unfold cN;rw [decide_eq_false h3];simp))
     ·rw [decide_eq_false h2]
      exact b9 (b9 (bi (no λd=>by unfold cN;rw [decide_eq_false h2];simp)))
    ·rw [decide_eq_false (λz=>h1 (V.str.inj z))]
     exact b9 (b9 (bi (no λd=>by unfold cN;rw [decide_eq_false h1];simp)))
  ·rintro σ H2 ⟨v5,v6,rfl,g2,hd2⟩
   dsimp only
   refine bA ⟨_,rfl,?_⟩
   rw [List.length_map,lps]at hd2
   exact q dl H2 nd0 g2 hd2
noncomputable def iC (k:Str) (f:Int->V × V):Nat->List aO->List aO
 | 0,bs=>bs
 | n+1,bs=>if (f n).1=(f n).2 then iC k f n bs else eO (iC k f n bs) (k,(n:Int),(n:Int),(f n).1,(f n).2)
theorem uo (X:List aO) (k:Str) (a:Int) (p:V × V):∃(ini:List aO) (a':Int),∀e:Int,eO X (k,a,e,p.1,p.2)=ini++[(k,a',e,p.1,p.2)]:=by
 rcases List.eq_nil_or_concat X with h | ⟨i,l,h⟩
 ·subst h
  exact⟨[],a,λe=>rfl⟩
 ·rw [List.concat_eq_append]at h
  subst h
  by_cases c:OnB l (k,a,0,p.1,p.2)
  ·refine⟨i,l.2.1,λe=>?_⟩
   rw [h7 (l:=l) (b:=(k,a,e,p.1,p.2)) ⟨c.1,c.2.1,c.2.2⟩,show l.1=k from c.1]
  ·exact⟨i++[l],a,λe=>fJ λz=>c ⟨z.1,z.2.1,z.2.2⟩⟩
theorem xV {k:Str}{f:Int->V × V}{p:V × V}{a:Nat}{bs:List aO} (hp:p.1≠p.2):∀{m:Nat},(∀j:Nat,a<=j->j<=a+m->f j=p)->iC k f (a+m+1) bs=eO (iC k f a bs) (k,(a:Int),((a+m:Nat):Int),p.1,p.2)
 | 0,h=>by
  show (if (f (a:Nat)).1=(f (a:Nat)).2 then _ else _)=_
  rw [h a (Nat.le_refl _) (Nat.le_refl _),if_neg hp]
  rfl
 | m+1,h=>by
  have ih:=xV (k:=k) hp (bs:=bs) (m:=m) λj h1 h2=>h j h1 ‹1›
  show (if (f ((a+m+1:Nat):Int)).1=(f ((a+m+1:Nat):Int)).2 then _ else eO (iC k f (a+m+1) bs) (k,((a+m+1:Nat):Int),((a+m+1:Nat):Int),(f ((a+m+1:Nat):Int)).1,(f ((a+m+1:Nat):Int)).2))=_
  rw [h (a+m+1) ‹1› ‹1›,if_neg hp,ih]
  obtain⟨ini,a',e⟩:=uo (iC k f a bs) k a p
  rw [e,e,h7 (l:=(k,a',((a+m:Nat):Int),p.1,p.2)) (b:=(k,((a+m+1:Nat):Int),((a+m+1:Nat):Int),p.1,p.2)) ⟨rfl,by show ((a+m:Nat):Int)+1=((a+m+1:Nat):Int);omega,rfl⟩]
  rfl
theorem xU {k:Str}{f:Int->V × V}{p:V × V}{a:Nat}{bs:List aO} (hp:p.1=p.2):∀{m:Nat},(∀j:Nat,a<=j->j < a+m->f j=p)->iC k f (a+m) bs=iC k f a bs
 | 0,_=>rfl
 | m+1,h=>by
  show (if (f ((a+m:Nat):Int)).1=(f ((a+m:Nat):Int)).2 then _ else _)=_
  rw [h (a+m) ‹1› ‹1›,if_pos hp]
  exact xU hp λj h1 h2=>h j h1 ‹1›
noncomputable def nA (k:Str) (φ:V × V->V × V) (bs:List aO) (r:eA):List aO:=if (φ r.2.2).1=(φ r.2.2).2 then bs else eO bs (k,r.1,r.2.1,(φ r.2.2).1,(φ r.2.2).2)
theorem kL {k:Str}{g:Int->V × V}{acc:List eA} (F:Strip.Full acc 0 399 g) (φ:V × V->V × V) (bs:List aO):∀i,i<=acc.length->∃n:Nat,iC k (λd=>φ (g d)) n bs=(acc.take i).foldl (nA k φ) bs/\(∀r,acc[i]?=some r->r.1=(n:Int))/\(i=acc.length->n=400)
 | 0,_=>by
  refine⟨0,rfl,λr e=>F.first e,λz=>?_⟩
  have:=F.some (by decide)
  omega
 | i+1,hi=>by
  obtain⟨n,h1,h2,_⟩:=kL F φ bs i ‹1›
  have er:acc[i]?=some acc[i]:=List.getElem?_eq_getElem ‹1›
  generalize acc[i]'‹1›=r at er
  have hm:=List.mem_of_getElem? er
  have hs:=h2 r er
  obtain⟨_,_,hg⟩:=F.row hm
  have hle:=F.tidy.up.le r hm
  have et:acc.take (i+1)=acc.take i++[r]:=by rw [List.take_add_one,er];rfl
  obtain⟨m,em⟩:∃m:Nat,r.2.1=((n+m:Nat):Int):=⟨(r.2.1 - r.1).toNat,by omega⟩
  refine⟨n+m+1,?_,λs es=>by rw [(F.next er es).1];omega,λz=>?_⟩
  ·rw [et,List.foldl_append,<- h1]
   show _=nA k φ _ r
   unfold nA
   by_cases c:(φ r.2.2).1=(φ r.2.2).2
   ·rw [if_pos c]
    exact xU (m:=m+1) c λj a1 a2=>congrArg φ (hg j ⟨by omega,by omega⟩)
   ·rw [if_neg c,xV (m:=m) c λj a1 a2=>congrArg φ (hg j ⟨by omega,by omega⟩),hs,em]
  ·have:=F.last er (List.getElem?_eq_none ‹1›)
   omega
theorem lg {k:Str}{g:Int->V × V}{acc:List eA} (F:Strip.Full acc 0 399 g) (φ:V × V->V × V) (bs:List aO):iC k (λd=>φ (g d)) 400 bs=acc.foldl (nA k φ) bs:=by
 obtain⟨n,h1,_,h3⟩:=kL (k:=k) F φ bs acc.length (Nat.le_refl _)
 rw [List.take_length]at h1
 rw [<- h3 rfl]
 exact h1
theorem um {bs:List aO}{b:aO} (h:∀l∈bs,¬OnB l b):eO bs b=bs++[b]:=by
 rcases List.eq_nil_or_concat bs with e | ⟨i,l,e⟩
 ·subst e;rfl
 ·rw [List.concat_eq_append]at e
  subst e
  exact fJ (h l (by simp))
theorem nj {k:Str}{g:Int->V × V}{acc:List eA} (F:Strip.Full acc 0 399 g){bs:List aO} (hb:∀b∈bs,b.1≠k):∀i,i<=acc.length->(acc.take i).foldl (nA k id) bs=bs++((acc.take i).filter neW).map (xG k)
 | 0,_=>(List.append_nil _).symm
 | i+1,hi=>by
  have ih:=nj F hb i ‹1›
  have er:acc[i]?=some acc[i]:=List.getElem?_eq_getElem ‹1›
  generalize acc[i]'‹1›=r at er
  have et:acc.take (i+1)=acc.take i++[r]:=by rw [List.take_add_one,er];rfl
  rw [et,List.foldl_append,ih,List.filter_append,List.map_append]
  show nA k id _ r=_
  unfold nA
  dsimp only [id]
  by_cases c:r.2.2.1=r.2.2.2
  ·rw [if_pos c,List.filter_cons,if_neg (by unfold neW;rw [decide_eq_true c];decide)]
   rw [List.filter_nil,List.map_nil,List.append_nil]
  ·rw [if_neg c,List.filter_cons,if_pos (by unfold neW;rw [decide_eq_false c];rfl)]
   rw [<- List.append_assoc]
   refine um λl hl z=>?_
   rcases List.mem_append.mp hl with hl | hl
   ·exact hb l hl z.1
   ·obtain⟨s,hs,rfl⟩:=List.mem_map.mp hl
    obtain⟨j,hj⟩:=List.getElem?_of_mem (List.mem_filter.mp hs).1
    rw [List.getElem?_take]at hj
    split at hj
    ·rename_i hji
     obtain⟨_,z2,z3⟩:=z
     have z2:s.2.1+1=r.1:=z2
     have z3:s.2.2=r.2.2:=z3
     by_cases e1:j+1=i
     ·subst e1
      exact(F.next hj er).2 z3
     ·have hx:acc[j+1]?=some acc[j+1]:=List.getElem?_eq_getElem ‹1›
      generalize acc[j+1]'‹1›=x at hx
      have n1:=(F.next hj hx).1
      have n2:=F.tidy.up.le x (List.mem_of_getElem? hx)
      have n3:=Strip.up_lt F.tidy.up (show j+1 < i by omega) hx er
      omega
    ·cases hj
theorem gL {α β:Type}{f:β->α->β}{p:α->Bool} (h:∀b a,p a=false->f b a=b):∀(xs:List α) (b:β),xs.foldl f b=(xs.filter p).foldl f b
 | [],_=>rfl
 | a::xs,b=>by
  rw [List.foldl_cons,List.filter_cons]
  cases hp:p a with
  | true=>rw [if_pos rfl,List.foldl_cons];exact gL h xs _
  | false=>rw [if_neg (by decide),h b a hp];exact gL h xs _
noncomputable def wa (B:Bk) (p:V × V):V × V:=(fu B p.1,fu B p.2)
noncomputable def kr (B:Bk) (t u:Nat) (φ:V × V->V × V) (ks:List Str):List aO:=ks.foldl (λbs k=>iC k (λd=>φ (fN B k t u d)) 400 bs) []
theorem i7 (B:Bk) (t u:Nat) (φ:V × V->V × V) (ks:List Str) (k:Str):kr B t u φ (ks++[k])=iC k (λd=>φ (fN B k t u d)) 400 (kr B t u φ ks):=by
 unfold kr
 rw [List.foldl_append]
 rfl
theorem xC {B:Bk}{t u:Nat}{ks:List Str}{bs:List aO} (h:Boxes B t u ks bs):ks.Nodup->kr B t u id ks=bs/\∀b∈bs,b.1∈ks:=by
 induction h with
 | nil=>exact λ_=>⟨rfl,λ_ h=>nomatch h⟩
 | @snoc ks k bs acc _ FU ih=>
  intro nd
  obtain⟨n1,_,n3⟩:=List.nodup_append.mp nd
  obtain⟨e1,e2⟩:=ih n1
  have hk:∀b∈bs,b.1≠k:=λb hb=>n3 _ (e2 b hb) k (List.mem_singleton.mpr rfl)
  have:=nj (k:=k) FU hk acc.length (Nat.le_refl _)
  rw [List.take_length]at this
  rw [i7,e1,lg FU id,this]
  refine⟨rfl,λb hb=>?_⟩
  rcases List.mem_append.mp hb with hb | hb
  ·exact List.mem_append_left _ (e2 b hb)
  ·obtain⟨r,_,rfl⟩:=List.mem_map.mp hb
   exact List.mem_append_right _ (List.mem_singleton.mpr rfl)
theorem xB {B:Bk}{t u:Nat}{ks:List Str}{bs:List aO} (h:Boxes B t u ks bs):kr B t u (wa B) ks=dk B bs:=by
 induction h with
 | nil=>rfl
 | @snoc ks k bs acc _ FU ih=>
  rw [i7,ih,lg FU (wa B),gL (p:=neW) λbs r hr=>?_]
  ·unfold dk
   rw [List.foldl_append,List.foldl_map]
   rfl
  ·unfold neW at hr
   have e:r.2.2.1=r.2.2.2:=by
    by_cases c:r.2.2.1=r.2.2.2
    ·exact c
    ·rw [decide_eq_false c]at hr;cases hr
   unfold nA wa
   rw [e,if_pos rfl]
noncomputable def iU (B:Bk) (t u:Nat) (φ:V × V->V × V) (ks:List Str) (k:Str) (n:Nat):List aO:=iC k (λd=>φ (fN B k t u d)) n (kr B t u φ ks)
theorem zI (B:Bk) (t u:Nat) (φ:V × V->V × V) (ks:List Str) (k:Str) (n:Nat):iU B t u φ ks k (n+1)=if (φ (fN B k t u n)).1=(φ (fN B k t u n)).2 then iU B t u φ ks k n else eO (iU B t u φ ks k n) (k,(n:Int),(n:Int),(φ (fN B k t u n)).1,(φ (fN B k t u n)).2):=rfl
end Mine
namespace Kn
open PySem
end Kn
namespace L2
open PySem PySem.Spec PyProof.Rows
section
variable {prog:Program}{w:World}{K:Type} [DecidableEq K] {knd:HeapKind prog w K}{A:Around}{E:Value->Shared->Prop}{s:Shared}
end
section
variable {X:Cx}{pins:List (Addr × Obj)}{σ:St}{H:Hp}{s:Shared}{a b:Addr}{kvs:List (List Key × V)}{k:List Key}{A:Around}{E:Value->Shared->Prop}
end
section
variable {X:Cx}{o e f:Expr}{apos cpos:Pos}{td ty tx:TE}
end
end L2
namespace PySem.SeqAt
open AutoSeq1 (wpAny_loadPart')
open MeetsSeq MeetsSeq2 MeetsSeq3 SeqRoads2
end PySem.SeqAt
namespace L2
open PySem PySem.Spec PyProof.Rows
theorem jW (n:Nat):((List.range n).all λ_=>true)=true:=List.all_eq_true.mpr λ_ _=>rfl
section
variable {X:Cx}
end
theorem uh {t:TS}{D:Ends}{H:Hp}{σ σ':St} (e:σ=σ') (h:t D σ' H):t D σ H:=by
 rw [e];exact h
section
variable {X:Cx}
end
section
variable {X:Cx}
end
section
variable {prog:Program}{w:World}{A:Around}{E:Value->Shared->Prop}
end
theorem y9 {X:Cx}{pins:List (Addr × Obj)}{σ:St}{H:Hp}{s:Shared}{p:Addr}{xs:List V} (I:Inv X pins σ H s) (e:H p=some (.lst xs)):∃its:List Value,aJ xs its/\s.heap.IsList p its.toArray:=by
 obtain⟨_,its,n,r,h1⟩:=(show br X.prog X.w H s.heap p (.lst xs) from I.hok p _ e)
 exact⟨its,r,_,h1,rfl,n,rfl⟩
section
variable {X:Cx}
end
inductive rNilL (neg:Bool) (x:V) (y:V) (H:Hp) (Q:VK):Prop
 | mk (a b xs) (h1:x=.ref a) (h2:y=.ref b) (h3:H a=some (.lst xs)) (h4:H b=some (.lst [])) (h6:Q (.bl (if neg=true then !xs.isEmpty else xs.isEmpty)) H):rNilL neg x y H Q
section
variable {X:Cx}
theorem rK (hu:X.A.units+64 < cLine):OpR X (compareOp .NotEq) (rNilL true):=by
 intro pins s σ H x y v u Q I r1 r2 h
 obtain⟨a,b,xs,rfl,rfl,ea,eb,q⟩:=h
 cases r1;cases r2
 obtain⟨us,v1,o1⟩:=y9 I ea
 obtain⟨vs,v2,o2⟩:=y9 I eb
 cases v2
 cases xs with
 | nil=>
  cases v1
  refine SeqAt.RcNeAt.lists (e:=λ_=>true) o1 o2 rfl ‹1› (λj h1 h2=>absurd h1 (Nat.not_lt_zero _)) _ _ _ _ ?_
  rw [jW]
  exact⟨.bl false,H,I,rfl,q⟩
 | cons x r=>
  refine SeqAt.RcNeAt.lists_lengths o1 o2 ?_ ‹1› _ _ _ _ ⟨.bl true,H,I,rfl,q⟩
  rw [List.size_toArray,List.size_toArray,<- Paired.length v1]
  rfl
end
theorem yO {t u:TS}{D:Ends}{σ:St}{H:Hp} (Post:St->Hp->Prop) (h1:∀R:St->Hp->Prop,(∀σ' H',Post σ' H'->R σ' H')->t { D with nx:=R } σ H) (h2:∀σ' H',Post σ' H'->u D σ' H'):yj t u D σ H:=h1 _ h2
end L2
namespace Mine
open PySem L2
variable {P:Program}{w:World}{K:W.Frag}{mg:Str->Option Value}{base:Heap}
noncomputable abbrev tX:Stmt:=top 54
noncomputable abbrev qv:Stmt:=top 55
noncomputable abbrev m6:Stmt:=top 53
theorem stg {H H':Hp}{s:SA}{B:Bk} (h:StAt H s B) (g:aq H H'):StAt H' s B:=StAt.keep h (λb o _ e=>g b o e) (λb xs e=>g b _ e)
noncomputable def tu:Sp:=λvs H Q _=>∃(s:SA) (B:Bk) (v:V),vs=[.ref s.d,v]/\StAt H s B/\Spk B v/\Q (fu B v) H
inductive ToI (C L p:Addr) (a:BA) (F:Addr->Prop) (B:Bk) (v1 v2:V) (t u:Nat) (c:Bool) (H:Hp) (Q:VK):Prop
 | mk (LL:Lm L H) (h:BkAt C H p a F B) (hF:∀b,F b->b≠L) (T1:Turn B v1 t) (T2:Turn B v2 u) (q:∀(d:Addr) (bs:List aO) (H':Hp),H d=none->Gm L H H'->dZ H' d (if c=true then dk B bs else bs)->Boxes B t u B.ks bs->Q (.ref d) H'):ToI C L p a F B v1 v2 t u c H Q
noncomputable def tz (C L:Addr):Sp:=λvs H Q _=>∃(p:Addr) (a:BA) (F:Addr->Prop) (B:Bk) (v1 v2:V) (t u:Nat) (c:Bool),vs=[.ref p,v1,v2,.bl c]/\ToI C L p a F B v1 v2 t u c H Q
noncomputable def pZ (C CT:Addr):Sp:=λvs H _ E=>∃(p:Addr) (a:BA) (F:Addr->Prop) (B:Bk) (v1 v2:V) (c:Bool),vs=[.ref p,v1,v2,.bl c]/\BkAt C H p a F B/\UnX B v1 v2 CT H E
theorem yu:FnScope ["_law_state_here", "_law_number"] ["_law_state_here", "_law_number"] (al tX):=‹2›
theorem wV {f:Addr}{fd:FuncData} (F:Fun K "_law_value" "_law_value" tX f fd)  : FnOk P w K mg base CX0 1 f fd ["_law_state_here", "_law_number"] tu:=by
 refine F.ok (k:=0) yu (λvs H Q E h=>?_) (λcdv A outer s H vs Q E hr h=>?_)
 ·obtain⟨s,B,v,rfl,_⟩:=h
  rfl
 ·obtain⟨s,B,v,rfl,h,hv,q⟩:=h
  have hu:=aS hr
  refine⟨_,(ah (aW (eX (iw (pv 1))) (aj (az gC)) aF)
   (aj (az (aH bf (aH aR (bH hu (pv 0) bh (λ_ _=>rfl)) (pv 1) (λ_ _=>rfl)) ai (λ_ _=>rfl))))),?_⟩
  obtain⟨ps,e1,r1⟩:=id h.hf
  rcases hv with rfl | ⟨n,f,rfl,hf⟩
  ·exact au (c4 ⟨_,rfl,_,rfl,bT (bA q)⟩)
  refine au (c4 ⟨_,rfl,_,rfl,b9 (bi ?_)⟩)
  dsimp only
  obtain⟨x,ex,hx⟩:=jc r1 hf
  refine bA ⟨_,rfl,s.d,_,rfl,h.d_f,_,rfl,s.f,_,_,.ref x,rfl,rfl,SqL.of e1,cD (by rw [List.getElem?_map,ex];rfl),x,_,3,V.int f.2.2.2.1,rfl,rfl,SqT.of hx,rfl,?_⟩
  have ev:fu B (.int (n:Int))=.int f.2.2.2.1:=by
   show (match B.fs[((n:Int)).toNat]? with | some f=>V.int f.2.2.2.1 | none=>.non)=_
   rw [Int.toNat_natCast,hf]
  rw [ev]at q
  exact q
theorem tP:FnScope ["_law_book", "_law_one", "_law_other", "_law_values"] ["_law_book", "_law_one", "_law_other", "_law_values"] (al qv):=‹2›
theorem wX {f f1 f2 C L:Addr}{fd:FuncData} (F:Fun K "_law_told" "_law_told" qv f fd){fd1:FuncData} (CU:Cal P w K mg base "unlike" 7 ["book", "one", "other"] (ji C L) f1 fd1){fd2:FuncData} (CV:Cal P w K mg base "unlike_values" 8 ["book", "one", "other"] (tw C L) f2 fd2):FnOk P w K mg base CX0 9 f fd ["_law_book", "_law_one", "_law_other", "_law_values"] (tz C L):=by
 refine F.ok (k:=8) tP (λvs H Q E h=>?_) (λcdv A outer s H vs Q E hr h=>?_)
 ·obtain⟨p,a,F,B,v1,v2,t,u,c,rfl,_⟩:=h
  rfl
 ·obtain⟨p,a,F,B,v1,v2,t,u,c,rfl,⟨LL,h,hF,T1,T2,q⟩⟩:=h
  have hu:=aS hr
  refine⟨_,(ah (aW (bL (pv 3)) (aj (az (am CV.ok (hr.mono (by decide)) rfl CV.nm CV.kp CV.bd .nil ao (aa (pv 0) (aa (pv 1) (aa (pv 2) ad)))))) aF)
   (aj (az (am CU.ok (hr.mono (by decide)) rfl CU.nm CU.kp CU.bd .nil ao (aa (pv 0) (aa (pv 1) (aa (pv 2) ad))))))),?_⟩
  refine au (c4 ⟨_,rfl,_,rfl,?_⟩)
  cases c with
  | true=>exact bT (bA ⟨_,rfl,_,rfl,_,rfl,p,a,F,B,v1,v2,t,u,rfl,LL,h,hF,T1,T2,λd bs H' n g bl bx=>q d bs H' n g bl bx⟩)
  | false=>
   refine b9 (bi ?_)
   dsimp only
   exact bA ⟨_,rfl,_,rfl,_,rfl,p,a,F,B,v1,v2,t,u,rfl,LL,h,hF,T1,T2,λd bs H' n g bl bx _=>q d bs H' n g bl bx⟩
theorem uN {f f1 f2 C CT:Addr}{fd:FuncData} (F:Fun K "_law_told" "_law_told" qv f fd){fd1:FuncData} (CU:CalX P w K mg base "unlike" 7 ["book", "one", "other"] (jj C CT) f1 fd1){fd2:FuncData} (CV:CalX P w K mg base "unlike_values" 8 ["book", "one", "other"] (jj C CT) f2 fd2):FnOk P w K mg base (CXR P w) 9 f fd ["_law_book", "_law_one", "_law_other", "_law_values"] (pZ C CT):=by
 refine F.okX (k:=8) tP (λvs H Q E h=>?_) (λcdv A outer s H vs Q E hr h=>?_)
 ·obtain⟨p,a,F,B,v1,v2,c,rfl,_⟩:=h
  rfl
 ·obtain⟨p,a,F,B,v1,v2,c,rfl,h,q⟩:=h
  have hu:=aS hr
  refine⟨_,(ah (aW (bL (pv 3)) (aj (az (am CV.ok (hr.mono (by decide)) rfl CV.nm CV.kp CV.bd .nil kS (aa (pv 0) (aa (pv 1) (aa (pv 2) ad)))))) aF)
   (aj (az (am CU.ok (hr.mono (by decide)) rfl CU.nm CU.kp CU.bd .nil kS (aa (pv 0) (aa (pv 1) (aa (pv 2) ad))))))),?_⟩
  refine au (c4 ⟨_,rfl,_,rfl,?_⟩)
  cases c with
  | true=>exact bT (bA ⟨_,rfl,_,rfl,_,rfl,p,a,F,B,v1,v2,rfl,h,q⟩)
  | false=>
   refine b9 (bi ?_)
   dsimp only
   exact bA ⟨_,rfl,_,rfl,_,rfl,p,a,F,B,v1,v2,rfl,h,q⟩
theorem yL {t:TT}{s1 s2:TS}{D:Ends}{σ:St}{H:Hp} (c:Bool) (h:∀Q:Bool->Hp->Prop,(∀H',aq H H'->Q c H')->t σ H Q) (h1:c=true->∀H',aq H H'->s1 D σ H') (h2:c=false->∀H',aq H H'->s2 D σ H'):wc t s1 s2 D σ H:=by
 refine c4 (h _ λH' g=>?_)
 cases c with
 | true=>exact bT (h1 rfl H' g)
 | false=>exact b9 (h2 rfl H' g)
noncomputable def phi (B:Bk) (c:Bool):V × V->V × V:=if c=true then wa B else id
noncomputable def onL (bs:List aO) (b:aO):Bool:=match bs.getLast? with
 | some l=>decide (OnB l b)
 | none=>false
theorem mj (bs:List aO) (l b:aO):onL (bs++[l]) b=decide (OnB l b):=by
 unfold onL
 rw [List.getLast?_concat]
theorem wH {bs:List aO}{b:aO} (h:onL bs b=false):eO bs b=bs++[b]:=by
 rcases List.eq_nil_or_concat bs with e | ⟨i,l,e⟩
 ·subst e;rfl
 ·rw [List.concat_eq_append]at e
  subst e
  rw [mj]at h
  exact fJ (of_decide_eq_false h)
theorem ul {bs:List aO}{b:aO} (h:onL bs b=true):∃i l,bs=i++[l]/\OnB l b/\eO bs b=i++[(l.1,l.2.1,b.2.2.1,b.2.2.2)]:=by
 rcases List.eq_nil_or_concat bs with e | ⟨i,l,e⟩
 ·subst e;cases h
 ·rw [List.concat_eq_append]at e
  subst e
  rw [mj]at h
  exact⟨i,l,rfl,of_decide_eq_true h,h7 (of_decide_eq_true h)⟩
inductive BoI (s:SA) (B:Bk) (t u:Nat) (c:Bool) (H:Hp) (Q:VK):Prop
 | mk (h:StAt H s B) (O:B.Ok) (q:∀(d:Addr) (H':Hp),H d=none->aq H H'->dZ H' d (kr B t u (phi B c) B.ks)->Q (.ref d) H'):BoI s B t u c H Q
noncomputable def n8:Sp:=λvs H Q _=>∃(s:SA) (B:Bk) (t u:Nat) (c:Bool),vs=[.ref s.d,.int (t:Int),.int (u:Int),.bl c]/\BoI s B t u c H Q
inductive BkI (H:Hp) (s:SA) (B:Bk) (t u:Nat) (c:Bool) (bl:Addr) (i:Nat) (σ:St) (H2:Hp):Prop
 | mk (v5 v6 v7 v8 v9:Option V) (h1:σ=[some (.ref s.d),some (.int (t:Int)),some (.int (u:Int)),some (.bl c),some (.ref bl),v5,v6,v7,v8,v9]) (h2:aq H H2) (h3:dZ H2 bl (kr B t u (phi B c) (B.ks.take i))) (h4:(kr B t u (phi B c) (B.ks.take i)).length<=400 * i):BkI H s B t u c bl i σ H2
inductive BdI (H:Hp) (s:SA) (B:Bk) (t u:Nat) (c:Bool) (bl d1 d2:Addr) (i:Nat) (k:Str) (n:Nat) (σ:St) (H2:Hp):Prop
 | mk (v8 v9:Option V) (h1:σ=[some (.ref s.d),some (.int (t:Int)),some (.int (u:Int)),some (.bl c),some (.ref bl),some (.str k),some (.ref d1),some (.ref d2),v8,v9]) (h2:aq H H2) (h3:dZ H2 bl (iU B t u (phi B c) (B.ks.take i) k n)) (h4:(iU B t u (phi B c) (B.ks.take i) k n).length<=400 * i+n) (h5:H2 d1=some (.lst (Strip.dayL (whoD B k t B.fs.length)))) (h6:H2 d2=some (.lst (Strip.dayL (whoD B k u B.fs.length)))):BdI H s B t u c bl d1 d2 i k n σ H2
theorem k9 {x y:V} (hx:bF x) (hy:bF y):PySem.W.kqdOk 9 (.tuple [eR x,eR y])=true:=by
 show ([eR _,eR _].all (PySem.W.kqdOk 8))=true
 rw [List.all_cons,List.all_cons,fW 8 hx,fW 8 hy];rfl
theorem pT (B:Bk) (k:Str) (t:Nat) (d:Int):Spk B (whoD B k t B.fs.length d):=lJ B k t d
theorem mS {B:Bk}{v:V} (h:Spk B v):bF v:=by
 rcases h with rfl | ⟨n,f,rfl,_⟩ <;> trivial
theorem dm:FnScope ["_law_state_here", "_law_one", "_law_other", "_law_values", "_law_boxes_here", "_law_key", "_law_here", "_law_there", "_law_day", "_law_pair"] ["_law_state_here", "_law_one", "_law_other", "_law_values"] (al m6):=‹2›
theorem rX {f f1 f2:Addr}{fd:FuncData} (F:Fun K "_law_boxes" "_law_boxes" m6 f fd) (N:Free mg){fd1:FuncData} (CP:Cal P w K mg base "_law_painted" 1 ["_law_state_here", "_law_key", "_law_turn_here"] kH f1 fd1){fd2:FuncData} (CW:Cal P w K mg base "_law_value" 1 ["_law_state_here", "_law_number"] tu f2 fd2):FnOk P w K mg base CX0 2 f fd ["_law_state_here", "_law_one", "_law_other", "_law_values"] n8:=by
 refine F.ok (k:=1) dm (λvs H Q E h=>?_) (λcdv A outer s H vs Q E hr h=>?_)
 ·obtain⟨s,B,t,u,c,rfl,_⟩:=h
  rfl
 ·obtain⟨s,B,t,u,c,rfl,⟨h,O,q⟩⟩:=h
  have hu:=aS hr
  refine⟨_,(ah (aB (i:=4) dm.nd rfl (Or.inl rfl) (be ad))
   (ah (bP PassesOwn.never rfl (bC (bH hu (pv 0) bh (λ_ _=>rfl))) (ay (i:=5) dm.nd rfl (Or.inl rfl))
   (ah (aB (i:=6) dm.nd rfl (Or.inl rfl) (am CP.ok (hr.mono (by decide)) rfl CP.nm CP.kp CP.bd .nil ao (aa (pv 0) (aa (pv 5) (aa (pv 1) ad)))))
   (ah (aB (i:=7) dm.nd rfl (Or.inl rfl) (am CP.ok (hr.mono (by decide)) rfl CP.nm CP.kp CP.bd .nil ao (aa (pv 0) (aa (pv 5) (aa (pv 2) ad)))))
   (aj (bP PassesOwn.never rfl (cG rfl N.range (aa ai ad)) (ay (i:=8) dm.nd rfl (Or.inl rfl))
   (ah (aB (i:=9) dm.nd rfl (Or.inl rfl) (bz (aa (aH aR (pv 6) (pv 8) (λ_ _=>rfl)) (aa (aH aR (pv 7) (pv 8) (λ_ _=>rfl)) ad))))
   (ah (aW (bL (pv 3)) (aj (aB (i:=9) dm.nd rfl (Or.inl rfl) (bz (aa (am CW.ok (hr.mono (by decide)) rfl CW.nm CW.kp CW.bd .nil ao (aa (pv 0) (aa (aH bf (pv 9) ai (λ_ _=>rfl)) ad))) (aa (am CW.ok (hr.mono (by decide)) rfl CW.nm CW.kp CW.bd .nil ao (aa (pv 0) (aa (aH bf (pv 9) ai (λ_ _=>rfl)) ad))) ad))))) aF)
   (ah (aW (aQ dB (aH bf (pv 9) ai (λ_ _=>rfl)) (aH bf (pv 9) ai (λ_ _=>rfl)) (aN _)) (aj nI) aF)
   (aj (aW (PW.pt (dz (aQ (rK hr.units) (pv 4) (be ad) (aN _)) (dz (aQ dB (aH bf (aH aR (pv 4) (eE cM ai) (λ_ _=>rfl)) ai (λ_ _=>rfl)) (pv 5) (aN _)) (dz (aQ dB (aH bf (aH aR (pv 4) (eE cM ai) (λ_ _=>rfl)) ai (λ_ _=>rfl)) (aE eY (pv 8) ai) (aN _)) (dC (aQ (jB hr.units) (cq ir (aH aR (pv 4) (eE cM ai) (λ_ _=>rfl)) (cw ai) dF) (pv 9) (aN _))))))) (aj (iu (bz (aa (pv 5) (aa (aH bf (aH aR (pv 4) (eE cM ai) (λ_ _=>rfl)) ai (λ_ _=>rfl)) (aa (pv 8) (aa (aH bf (pv 9) ai (λ_ _=>rfl)) (aa (aH bf (pv 9) ai (λ_ _=>rfl)) ad)))))) (mh (pv 4) (eE cM ai) gT))) (aj (aM (cT PySem.F.plainAttrs_list PySem.F.slot_list_append PySem.F.type_list_append b8 (pv 4) (aa (bz (aa (pv 5) (aa (pv 8) (aa (pv 8) (aa (aH bf (pv 9) ai (λ_ _=>rfl)) (aa (aH bf (pv 9) ai (λ_ _=>rfl)) ad)))))) ad))))))))))))))
   (aj (az (pv 4))))),?_⟩
  obtain⟨dx0,hk0⟩:∃z:True,H s.k=some (.lst (B.ks.map V.str)):=⟨trivial,h.hk⟩
  have k8:=O.k8
  refine au (aI ⟨Nat.zero_le _,λbl nbl=>?_⟩)
  walk_at "d"
  obtain⟨g1,e1⟩:=(⟨aq.new nbl,ae⟩:aq H (upd H bl (.lst []))/\upd H bl (.lst []) bl=some (.lst []))
  generalize upd H bl (.lst [])=H1 at g1 e1
  refine au ⟨_,rfl,s.d,_,rfl,(stg h g1).d_k,s.k,rfl,⟨_,SqL.of (g1 _ _ hk0)⟩,bO (K:=K) (a:=s.k) (xs:=B.ks.map V.str) (BkI H s B t u c bl) ⟨none,none,none,none,none,rfl,g1,⟨[],e1,.nil⟩,Nat.zero_le _⟩ (λi σ H2 _ hh=>?_) (λi v σ H2 hi hh=>?_) λσ H2 hh=>?_⟩
  ·obtain⟨_,_,_,_,_,_,g2,_⟩:=hh
   exact SqL.of (g2 _ _ hk0)
  ·obtain⟨v5,v6,v7,v8,v9,rfl,g2,hb2,hl2⟩:=hh
   rw [List.getElem?_map]at hi
   obtain⟨k,hk,rfl⟩:=Option.map_eq_some_iff.mp hi
   have hil:=(List.getElem?_eq_some_iff.mp hk).1
   have hNk:=O.nm k (List.mem_of_getElem? hk)
   have etk:B.ks.take (i+1)=B.ks.take i++[k]:=by rw [List.take_add_one,hk];rfl
   walk_at "d"
   refine au (aI ⟨_,rfl,_,rfl,_,rfl,s,B,k,(t:Int),rfl,stg h g2,O,λd1 H3 n1 g3 ed1=>?_⟩)
   walk_at "d"
   refine au (aI ⟨_,rfl,_,rfl,_,rfl,s,B,k,(u:Int),rfl,stg h (g2.trans g3),O,λd2 H4 n2 g4 ed2=>?_⟩)
   walk_at "d"
   have g24:=g3.trans g4
   have hb4:dZ H4 bl (iU B t u (phi B c) (B.ks.take i) k 0):=eS hb2 (λxs e=>g24 _ _ e) λc xs e=>g24 _ _ e
   refine⟨400,rfl,by decide,by decide,iA (lo:=0) (n:=400) (BdI H s B t u c bl d1 d2 i k) ⟨_,_,rfl,g2.trans g24,hb4,hl2,g4 _ _ ed1,ed2⟩ (λn σ H5 hn hh=>?_) λσ H5 hh=>?_⟩
   ·obtain⟨v8',v9',rfl,g5,hb5,hl5,e51,e52⟩:=hh
    walk_at "d"
    rw [Int.zero_add]
    have n1b:d1≠bl:=λz=>by obtain⟨ps,e,_⟩:=hb2;rw [z,e]at n1;cases n1
    have n2b:d2≠bl:=λz=>by obtain⟨ps,e,_⟩:=hb2;rw [z,g3 _ _ e]at n2;cases n2
    refine au (aI ⟨_,rfl,_,rfl,d1,_,(n:Int),_,rfl,rfl,SqL.of e51,cD (Strip.dayL_get _ hn),_,rfl,_,rfl,d2,_,(n:Int),_,rfl,rfl,SqL.of e52,cD (Strip.dayL_get _ hn),by show 2<=sizeLine;decide,λp1 np1=>?_⟩)
    walk_at "d"
    obtain⟨g6,e6⟩:=(⟨aq.new np1,ae⟩:aq H5 (upd H5 p1 (.tup [whoD B k t B.fs.length n,whoD B k u B.fs.length n]))/\upd H5 p1 (.tup [whoD B k t B.fs.length n,whoD B k u B.fs.length n]) p1=some (.tup [whoD B k t B.fs.length n,whoD B k u B.fs.length n]))
    have s1:=pT B k t n
    have s2:=pT B k u n
    have eg:fN B k t u (n:Int)=(whoD B k t B.fs.length n,whoD B k u B.fs.length n):=rfl
    generalize whoD B k t B.fs.length n=x1 at e6 s1 eg g6
    generalize whoD B k u B.fs.length n=x2 at e6 s2 eg g6
    generalize upd H5 p1 (.tup [x1,x2])=H6 at g6 e6
    refine yO (λσ H7=>∃(p2:Addr),σ=[some (.ref s.d),some (.int (t:Int)),some (.int (u:Int)),some (.bl c),some (.ref bl),some (.str k),some (.ref d1),some (.ref d2),some (.int (n:Int)),some (.ref p2)]/\aq H5 H7/\H7 p2=some (.tup [(phi B c (x1,x2)).1,(phi B c (x1,x2)).2])) (λR hR=>?_) λσ H7 hh=>?_
    ·refine c4 ⟨_,rfl,_,rfl,?_⟩
     cases c with
     | false=>exact b9 (bi (hR _ _ ⟨p1,rfl,g6,e6⟩))
     | true=>
      refine bT (aI ⟨_,rfl,_,rfl,p1,_,0,_,rfl,rfl,SqT.of e6,rfl,s,B,x1,rfl,stg h (g5.trans g6),s1,_,rfl,_,rfl,p1,_,1,_,rfl,rfl,SqT.of e6,rfl,s,B,x2,rfl,stg h (g5.trans g6),s2,by show 2<=sizeLine;decide,λp2 np2=>?_⟩)
      walk_at "d"
      exact hR _ _ ⟨p2,rfl,g6.trans (aq.new np2),ae⟩
    obtain⟨p2,rfl,g7,e7⟩:=hh
    have m1:bF (phi B c (x1,x2)).1:=by
     unfold phi
     cases c with
     | true=>exact fR B x1
     | false=>exact mS s1
    have m2:bF (phi B c (x1,x2)).2:=by
     unfold phi
     cases c with
     | true=>exact fR B x2
     | false=>exact mS s2
    have ed:=zI B t u (phi B c) (B.ks.take i) k n
    rw [eg]at ed
    generalize (phi B c (x1,x2)).1=y1 at e7 m1 ed
    generalize (phi B c (x1,x2)).2=y2 at e7 m2 ed
    have hb7:dZ H7 bl (iU B t u (phi B c) (B.ks.take i) k n):=eS hb5 (λxs e=>g7 _ _ e) λc xs e=>g7 _ _ e
    have g07:=g5.trans g7
    have e71:=g7 _ _ e51
    have e72:=g7 _ _ e52
    have hlen:(iU B t u (phi B c) (B.ks.take i) k (n+1)).length<=400 * i+(n+1):=by
     rw [ed]
     have:=nE (iU B t u (phi B c) (B.ks.take i) k n) (k,(n:Int),(n:Int),y1,y2)
     split <;> omega
    clear g6 e6 g7 e51 e52 hb5
    refine au (c4 ⟨_,rfl,p2,_,0,_,rfl,rfl,SqT.of e7,rfl,_,rfl,p2,_,1,_,rfl,rfl,SqT.of e7,rfl,eV m1 m2,_,rfl,?_⟩)
    by_cases ce:y1=y2
    ·rw [decide_eq_true ce]
     rw [if_pos ce]at ed
     refine bT ?_
     exact⟨_,_,rfl,g07,by rw [ed];exact hb7,hlen,e71,e72⟩
    rw [decide_eq_false ce]
    rw [if_neg ce]at ed
    refine b9 (bi ?_)
    dsimp only
    obtain⟨as,ebl,hbp⟩:=id hb7
    have hal:=ie hbp
    generalize hbs:iU B t u (phi B c) (B.ks.take i) k n=bs at ed hl5 hbp hal hb7 hlen
    have mk:fj (k,(n:Int),(n:Int),y1,y2):=⟨hNk,m1,m2⟩
    have fin:∀(bs':List aO) (H9:Hp),bs'=eO bs (k,(n:Int),(n:Int),y1,y2)->dZ H9 bl bs'->(∀b o,b≠bl->H7 b=some o->H9 b=some o)->BdI H s B t u c bl d1 d2 i k (n+1) [some (.ref s.d),some (.int (t:Int)),some (.int (u:Int)),some (.bl c),some (.ref bl),some (.str k),some (.ref d1),some (.ref d2),some (.int (n:Int)),some (.ref p2)] H9:=λbs' H9 e9 hb9 k9'=>by
     subst e9
     exact⟨_,_,rfl,λb o e=>k9' b o (af e nbl) (g07 _ _ e),by rw [ed];exact hb9,hlen,k9' _ _ n1b e71,k9' _ _ n2b e72⟩
    refine yL (onL bs (k,(n:Int),(n:Int),y1,y2)) (λQ' hQ=>?_) (λhc H8 g8=>?_) λhc H8 g8=>?_
    ·refine⟨_,rfl,Nat.zero_le _,λl0 nl0=>?_⟩
     obtain⟨g8,e8⟩:=(⟨aq.new nl0,ae⟩:aq H7 (upd H7 l0 (.lst []))/\upd H7 l0 (.lst []) l0=some (.lst []))
     change rNilL _ _ _ (upd H7 l0 (.lst [])) _
     generalize upd H7 l0 (.lst [])=H8 at g8 e8
     refine⟨bl,l0,_,rfl,rfl,g8 _ _ ebl,e8,?_⟩
     rcases List.eq_nil_or_concat bs with e | ⟨ini,l,e⟩
     ·subst e
      have e0:as=[]:=List.eq_nil_of_length_eq_zero hal
      subst e0
      exact⟨_,rfl,b9 (hQ _ g8)⟩
     rw [List.concat_eq_append]at e
     subst e
     obtain⟨qs,pl,rfl,hq,hpl,ml⟩:=fY hbp
     have elm:(qs++[pl]).map V.ref=qs.map V.ref++[V.ref pl]:=by rw [List.map_append];rfl
     have at1:atI ((qs++[pl]).map V.ref) (-1)=some (V.ref pl):=by rw [elm];exact fQ _ _
     rw [mj]at hQ
     have ebl8:=g8 _ _ ebl
     have hpl8:=g8 _ _ hpl
     refine⟨_,rfl,?_⟩
     rw [show (!(((qs++[pl]).map V.ref).isEmpty))=true from by rw [elm];simp]
     refine bT ⟨_,rfl,1,rfl,bl,_,-1,V.ref pl,rfl,rfl,SqL.of ebl8,at1,pl,_,0,V.str l.1,rfl,rfl,SqT.of hpl8,rfl,_,rfl,rfl,_,rfl,?_⟩
     by_cases c1:l.1=k
     ·rw [decide_eq_true (show V.str l.1=V.str k by rw [c1])]
      refine bT ⟨_,rfl,1,rfl,bl,_,-1,V.ref pl,rfl,rfl,SqL.of ebl8,at1,pl,_,2,V.int l.2.2.1,rfl,rfl,SqT.of hpl8,rfl,_,rfl,_,_,rfl,rfl,rfl,_,rfl,?_⟩
      by_cases c2:l.2.2.1=(n:Int) - 1
      ·rw [decide_eq_true (show V.int l.2.2.1=V.int ((n:Int) - 1) by rw [c2])]
       refine bT ⟨_,rfl,1,rfl,bl,_,-1,V.ref pl,rfl,rfl,SqL.of ebl8,at1,3,rfl,pl,_,rfl,SqT.of hpl8,(by show ¬(HT.sIx 5 0 (some 3)=0/\HT.sIx 5 5 none=5);decide),λp3 np3=>?_⟩
       obtain⟨g9,e9⟩:=(⟨aq.new np3,ae⟩:aq H8 (upd H8 p3 (.tup (cutV (cn l) (some 3) none)))/\upd H8 p3 (.tup (cutV (cn l) (some 3) none)) p3=some (.tup [l.2.2.2.1,l.2.2.2.2]))
       change eG _ _ (upd H8 p3 (.tup (cutV (cn l) (some 3) none))) _
       generalize upd H8 p3 (.tup (cutV (cn l) (some 3) none))=H9 at g9 e9
       refine⟨_,rfl,_,_,.tup e9 (.cons (bJ ml.2.1) (.cons (bJ ml.2.2) .nil)),.tup (g9 _ _ (g8 _ _ e7)) (.cons (bJ m1) (.cons (bJ m2) .nil)),k9 ml.2.1 ml.2.2,k9 m1 m2,decide (l.2.2.2=(y1,y2)),?_,_,rfl,?_⟩
       ·rw [decide_eq_true_iff]
        exact⟨λz=>by rw [show l.2.2.2.1=y1 from congrArg Prod.fst z,show l.2.2.2.2=y2 from congrArg Prod.snd z],λz=>lh ml.2.1 ml.2.2 m1 m2 z⟩
       ·have:=hQ H9 (g8.trans g9)
        rw [show decide (OnB l (k,(n:Int),(n:Int),y1,y2))=decide (l.2.2.2=(y1,y2)) from by
         rw [decide_eq_decide]
         exact⟨λz=>z.2.2,λz=>⟨c1,by show l.2.2.1+1=(n:Int);omega,z⟩⟩]at this
        exact this
      ·rw [decide_eq_false (λz=>c2 (V.int.inj z))]
       have:=hQ H8 g8
       rw [decide_eq_false (λz:OnB _ _=>c2 (by have z2:l.2.2.1+1=(n:Int):=z.2.1;omega))]at this
       exact b9 this
     ·rw [decide_eq_false (λz=>c1 (V.str.inj z))]
      have:=hQ H8 g8
      rw [decide_eq_false (λz:OnB _ _=>c1 z.1)]at this
      exact b9 this
    ·obtain⟨ini,l,rfl,hon,ep⟩:=ul hc
     obtain⟨qs,pl,rfl,hq,hpl,ml⟩:=fY hbp
     have elm:(qs++[pl]).map V.ref=qs.map V.ref++[V.ref pl]:=by rw [List.map_append];rfl
     have at1:atI ((qs++[pl]).map V.ref) (-1)=some (V.ref pl):=by rw [elm];exact fQ _ _
     have ebl8:=g8 _ _ ebl
     have hpl8:=g8 _ _ hpl
     have e78:=g8 _ _ e7
     refine aI ⟨_,rfl,_,rfl,1,rfl,bl,_,-1,V.ref pl,rfl,rfl,SqL.of ebl8,at1,pl,_,1,V.int l.2.1,rfl,rfl,SqT.of hpl8,rfl,_,rfl,_,rfl,p2,_,0,_,rfl,rfl,SqT.of e78,rfl,_,rfl,p2,_,1,_,rfl,rfl,SqT.of e78,rfl,by show 5<=sizeLine;decide,λp3 np3=>?_⟩
     obtain⟨z1,z2⟩:=mQ (r:=(k,l.2.1,(n:Int),y1,y2)) ebl8 (cL hq λc xs e=>g8 _ _ e) np3 ⟨hNk,m1,m2⟩
     refine⟨_,rfl,1,rfl,bl,_,-1,qs.length,rfl,rfl,by rw [ag (af ebl8 np3)];exact ebl8,by rw [List.length_map,List.length_append];exact jN _,?_⟩
     exact fin _ _ (by rw [ep,show l.1=k from hon.1]) z1 λb o nb e=>z2 b o nb (g8 _ _ e)
    ·have ebl8:=g8 _ _ ebl
     have e78:=g8 _ _ e7
     refine cQ ⟨_,rfl,.inl ⟨rfl,_,SqL.of ebl8⟩,_,rfl,_,rfl,_,rfl,_,rfl,p2,_,0,_,rfl,rfl,SqT.of e78,rfl,_,rfl,p2,_,1,_,rfl,rfl,SqT.of e78,rfl,by show 5<=sizeLine;decide,λp3 np3=>?_⟩
     obtain⟨z1,z2⟩:=nF (r:=(k,(n:Int),(n:Int),y1,y2)) ebl8 (cL hbp λc xs e=>g8 _ _ e) np3 mk
     refine⟨bl,_,_,rfl,rfl,by rw [ag (af ebl8 np3)];exact ebl8,by rw [List.length_map,hal];exact Nat.lt_of_lt_of_le (show _ < 9000000 by omega) (by decide),?_⟩
     exact fin _ _ (wH hc).symm z1 λb o nb e=>z2 b o nb (g8 _ _ e)
   ·obtain⟨v8',v9',rfl,g5,hb5,hl5,e51,e52⟩:=hh
    refine⟨_,_,_,_,_,rfl,g5,?_,?_⟩
    ·rw [etk,i7];exact hb5
    ·rw [etk,i7]
     have:(iU B t u (phi B c) (B.ks.take i) k 400).length<=400 * i+400:=hl5
     show (iU B t u (phi B c) (B.ks.take i) k 400).length<=_
     omega
  ·obtain⟨v5,v6,v7,v8,v9,rfl,g2,hb2,hl2⟩:=hh
   rw [List.length_map,List.take_length]at hb2
   dsimp only
   exact bA ⟨_,rfl,q bl H2 nbl g2 hb2⟩
end Mine
namespace L2
open PySem PySem.Spec PyProof.Rows
inductive FlD:V->PyData->Prop
 | non:FlD .non .none
 | bl (b:Bool):FlD (.bl b) (.bool b)
 | int (i:Int):FlD (.int i) (.int i)
 | str (x:Str):FlD (.str x) (.str x)
inductive Shw (H:Hp):V->PyData->Prop
 | flat {x:V}{d:PyData}:FlD x d->Shw H x d
 | lst {a:Addr}{xs:List V}{ds:List PyData}:H a=some (.lst xs)->Paired FlD xs ds->Shw H (.ref a) (.list ds)
 | tup {a:Addr}{xs:List V}{ds:List PyData}:H a=some (.tup xs)->Paired FlD xs ds->Shw H (.ref a) (.tuple ds)
theorem Shw.keep {H H':Hp}{x:V}{d:PyData} (h:Shw H x d) (g:∀b o,H b=some o->H' b=some o):Shw H' x d:=by
 cases h with
 | flat f=>exact .flat f
 | lst e p=>exact .lst (g _ _ e) p
 | tup e p=>exact .tup (g _ _ e) p
theorem oW {h:Heap}{x:V}{d:PyData}{u:Value} (f:FlD x d) (r:aP x u):Reads h u d []:=by
 cases f with
 | non=>cases (show u=Value.none from r);exact .none
 | bl b=>cases (show u=Value.bool b from r);exact .bool b
 | int i=>obtain⟨t,rfl⟩:=(show ∃t,u=Value.int i t from r);exact .int i t
 | str x=>obtain⟨t,rfl⟩:=(show ∃t,u=Value.str x t from r);exact .str x t
theorem fG {h:Heap}:∀{xs:List V}{ds:List PyData}{us:List Value},Paired FlD xs ds->aJ xs us->ReadsAll h us ds []
 | _,_,_,.nil,.nil=>.nil
 | _,_,_,.cons f t,.cons r rt=>.cons (as:=[]) (bs:=[]) (oW f r) (fG t rt)
section
variable {X:Cx}{pins:List (Addr × Obj)}{σ:St}{H:Hp}{s:Shared}
theorem ln (hg:X.A.guards=some []) (hu:X.A.units+64 < cLine):eF X (.builtin "repr") (λxs H Q=>∃x d,xs=[x]/\Shw H x d/\d.showable=true/\d.shown.length<=sizeLine/\d.depth<=20/\d.hasDict=false/\Q (.str d.shown) H):=by
 intro pins s σ H xs us Q I r h
 obtain⟨x,d,rfl,sh,hs,hz,hd,hdc,q⟩:=h
 obtain⟨u,rfl,ru⟩:=aJ.one r
 have kq:∀tk,EP X pins σ Q (.str d.shown s.toks) { s with toks:=tk }:=λtk=>⟨.str _,H,I.tok _,⟨_,rfl⟩,q⟩
 have hr:∀a as,u=.ref a->Reads s.heap u d as->wpAny (model X.prog X.w) X.A (call (.builtin "repr") [u]) (EP X pins σ Q) X.xe s:=λa as e rd=>by
  subst e
  exact repr_of_reads' rd hs (λz=>by rw [hdc]at z;cases z) hg ‹1› (λ_ _ e=>e) (λh' tk t' k=>⟨.str _,H,I.kept k,⟨_,rfl⟩,q⟩) hz
 cases sh with
 | flat f=>
  cases f with
  | non=>cases (show u=Value.none from ru);exact P.repr_of_none (kq _)
  | bl b=>cases (show u=Value.bool b from ru);exact P.repr_of_bool (by have:=kq (s.toks+1);unfold PyData.shown at this;cases b <;> exact this)
  | int i=>
   obtain⟨t,rfl⟩:=(show ∃t,u=Value.int i t from ru)
   exact P.repr_of_int (by unfold PyData.showable at hs;exact of_decide_eq_true hs) (kq _)
  | str x=>obtain⟨t,rfl⟩:=(show ∃t,u=Value.str x t from ru);exact P.repr_of_str (kq _) hz
 | lst e p=>
  rename_i a xs ds
  cases (show u=Value.ref a from ru)
  obtain⟨_,its,n,rv,e1⟩:=(show br X.prog X.w H s.heap a (.lst _) from I.hok a _ e)
  exact hr a _ rfl (reads_list_at e1 rfl rfl (by simpa using fG p rv))
 | tup e p=>
  rename_i a xs ds
  cases (show u=Value.ref a from ru)
  obtain⟨_,its,rv,o,e1,e2,n,e3⟩:=(show br X.prog X.w H s.heap a (.tup _) from I.hok a _ e)
  exact hr a _ rfl (reads_tuple_at e1 e2 e3 (by simpa using fG p rv))
end
section
variable {X:Cx}
end
section
variable {X:Cx}
end
noncomputable def xR:Expr->Bool
 | .Starred _ _=>true
 | _=>false
theorem qZ {e:Expr}{es:List Expr}{env:Env} (h:xR e=false):starEach (e::es) env=(false,eval e env)::starEach es env:=by
 cases e <;> first | (cases h;done) | (unfold starEach;rfl) | rfl
theorem bR {X:Cx}{e:Expr}{es:List Expr}{te:TE}{t:TA} (ha:PE X e te) (hr:PA X es t) (hs:xR e=false:=by rfl):PA X (e::es) (cW te t):=aa ha hr (qZ hs)
section
variable {σ:St}{H:Hp}
end
def qQ (H:Hp) (v:V) (d:PyData):Prop:=Shw H v d/\d.showable=true/\d.shown.length<=sizeLine/\d.depth<=20/\d.hasDict=false
theorem qQ.keep {H H':Hp}{v:V}{d:PyData} (h:qQ H v d) (g:∀b o,H b=some o->H' b=some o):qQ H' v d:=⟨h.1.keep g,h.2⟩
section
variable {σ:St}{H:Hp}
end
theorem zn {x:Str}:Nm x↔∀c∈x.cps.toList,c < 0x110000:=by
 unfold Nm
 rw [<- Array.all_toList,List.all_eq_true]
 exact⟨λh c hc=>of_decide_eq_true (h c hc),λh c hc=>decide_eq_true (h c hc)⟩
theorem AD (s:String):Nm (Str.ofString s):=by
 rw [zn,Str.ofString_eq_toList]
 intro c hc
 obtain⟨d,_,rfl⟩:=List.mem_map.mp (show c∈s.toList.map Char.toNat by simpa using hc)
 have:=d.valid
 rcases this with h | ⟨_,h⟩
 ·exact Nat.lt_of_lt_of_le h (by decide)
 ·exact h
def ShN (H:Hp) (v:V) (d:PyData):Prop:=qQ H v d/\Nm d.shown
theorem ShN.keep {H H':Hp}{v:V}{d:PyData} (h:ShN H v d) (g:∀b o,H b=some o->H' b=some o):ShN H' v d:=⟨h.1.keep g,h.2⟩
theorem iY {H:Hp}{i:Int} (h:i.natAbs < 10 ^ 30):ShN H (.int i) (.int i):=by
 have h1:i.natAbs.log2 < 1920:=by
  by_cases z:i.natAbs=0
  ·rw [z];decide
  ·exact(Nat.log2_lt z).mpr (Nat.lt_of_lt_of_le h ‹0›)
 refine⟨⟨.flat (.int i),by unfold PyData.showable;exact decide_eq_true h1,?_,by unfold PyData.depth;decide,by unfold PyData.hasDict;rfl⟩,?_⟩
 ·unfold PyData.shown;exact int_text_fits10 (Nat.lt_of_lt_of_le h (Nat.pow_le_pow_right (by decide) (by decide)))
 ·unfold PyData.shown;exact AD _
theorem yq {H:Hp}{b:Bool}:ShN H (.bl b) (.bool b):=by
 cases b <;> exact⟨⟨.flat (.bl _),‹0›,‹0›,‹0›,‹0›⟩,by unfold Nm;decide +kernel⟩
theorem tN {H:Hp}{v:V}{d:PyData} (h:Shw H v d) (k:(d.showable && (decide (d.shown.length<=sizeLine) && (decide (d.depth<=20) && (!d.hasDict && d.shown.cps.all (· < 0x110000)))))=true):ShN H v d:=by
 simp only [Bool.and_eq_true,decide_eq_true_eq,Bool.not_eq_true']at k
 exact⟨⟨h,k.1,k.2.1,k.2.2.1,k.2.2.2.1⟩,k.2.2.2.2⟩
end L2
namespace Mine
open PySem L2
variable {P:Program}{w:World}{K:W.Frag}{mg:Str->Option Value}{base:Heap}
noncomputable abbrev oP:Stmt:=top 56
noncomputable abbrev oM:Stmt:=top 57
noncomputable abbrev u5:Stmt:=top 58
noncomputable abbrev oI:Stmt:=top 59
noncomputable abbrev oN:Stmt:=top 60
noncomputable def qi:Sp:=λvs H Q _=>∃(a:Addr) (bs:List aO),vs=[.ref a]/\dZ H a bs/\∀H',aq H H'->Q (.bl true) H'
theorem lR:FnScope ["_law_boxes_here", "_law_box", "_law_one"] ["_law_boxes_here"] (al oP):=‹2›
theorem uT {f f1:Addr}{fd:FuncData} (F:Fun K "_law_kinds" "_law_kinds" oP f fd) (N:Free mg){fd1:FuncData} (CW:Cal P w K mg base "_law_whole" 1 ["_law_found"] lK f1 fd1):FnOk P w K mg base CX0 2 f fd ["_law_boxes_here"] qi:=by
 refine F.ok (k:=1) lR (λvs H Q E h=>?_) (λcdv A outer s H vs Q E hr h=>?_)
 ·obtain⟨a,bs,rfl,_⟩:=h
  rfl
 ·obtain⟨a,bs,rfl,⟨ps,ea,hp⟩,q⟩:=h
  have hu:=aS hr
  refine⟨_,(ah (bP PassesOwn.never rfl (bC (pv 0)) (ay (i:=1) lR.nd rfl (Or.inl rfl))
   (ah (aW (PW.pt (nB (bV (bL (aG bS (by rfl) N.isinstance PyProof.Rows.Boot.«isinstance» (aa (pv 1) (aa (de (v:=.ty "tuple") (by rfl) N.tuple PyProof.Rows.Boot.«tuple» rfl) ad))))) (nB (bV (bL (am CW.ok (hr.mono (by decide)) rfl CW.nm CW.kp CW.bd .nil ao (aa (aH bf (pv 1) ai (λ_ _=>rfl)) ad)))) (oY (bV (bL (am CW.ok (hr.mono (by decide)) rfl CW.nm CW.kp CW.bd .nil ao (aa (aH bf (pv 1) ai (λ_ _=>rfl)) ad)))))))) (aj (az dA)) aF)
   (aj (bP PassesOwn.never rfl (yR (cq ir (pv 1) (cw ai) dF)) (ay (i:=2) lR.nd rfl (Or.inl rfl))
   (aj (aW (PW.pt (dz (eX (wS (pv 2))) (dC (bV (bL (am CW.ok (hr.mono (by decide)) rfl CW.nm CW.kp CW.bd .nil ao (aa (pv 2) ad))))))) (aj (az dA)) aF))))))
   (aj (az dA))),?_⟩
  refine au ⟨_,rfl,a,rfl,⟨_,SqL.of ea⟩,bO (K:=K) (a:=a) (xs:=ps.map V.ref) (λi σ H2=>∃v1 v2:Option V,σ=[some (.ref a),v1,v2]/\aq H H2) ⟨none,none,rfl,aq.refl⟩ (λi σ H2 _ hh=>?_) (λi v σ H2 hi hh=>?_) λσ H2 hh=>?_⟩
  ·obtain⟨_,_,_,g⟩:=hh
   exact SqL.of (g _ _ ea)
  ·obtain⟨v1,v2,rfl,g2⟩:=hh
   rw [List.getElem?_map]at hi
   obtain⟨x,hx,rfl⟩:=Option.map_eq_some_iff.mp hi
   obtain⟨b,eb,hxb,mb⟩:=o8 hp hx
   have hx2:=g2 _ _ hxb
   walk_at "d"
   refine au (c4 ⟨_,rfl,.ref x,"tuple", _,true,rfl,.tup hx2,by rfl,_,rfl,b9 ⟨_,rfl,x,_,1,V.int b.2.1,rfl,rfl,SqT.of hx2,rfl,_,rfl,_,rfl,b9 ⟨_,rfl,x,_,2,V.int b.2.2.1,rfl,rfl,SqT.of hx2,rfl,_,rfl,_,rfl,b9 (bi ?_)⟩⟩⟩)
   dsimp only
   refine⟨_,rfl,3,rfl,x,_,rfl,SqT.of hx2,(by show ¬(HT.sIx 5 0 (some 3)=0/\HT.sIx 5 5 none=5);decide),λp1 np1=>?_⟩
   obtain⟨g3,e3⟩:=(⟨aq.new np1,ae⟩:aq H2 (upd H2 p1 (.tup (cutV (cn b) (some 3) none)))/\upd H2 p1 (.tup (cutV (cn b) (some 3) none)) p1=some (.tup [b.2.2.2.1,b.2.2.2.2]))
   generalize upd H2 p1 (.tup (cutV (cn b) (some 3) none))=H3 at g3 e3
   refine⟨p1,rfl,⟨_,SqT.of e3⟩,xA (K:=K) (a:=p1) (xs:=[b.2.2.2.1,b.2.2.2.2]) (λi σ H4=>∃v2:Option V,σ=[some (.ref a),some (.ref x),v2]/\H4=H3) ⟨_,rfl,rfl⟩ (λi σ H4 _ hh=>by obtain⟨_,_,rfl⟩:=hh;exact SqT.of e3) (λi v σ H4 hi hh=>?_) λσ H4 hh=>?_⟩
   ·obtain⟨v2',rfl,rfl⟩:=hh
    have mv:bF v:=by
     have:=List.mem_of_getElem? hi
     rcases List.mem_cons.mp this with e | e
     ·rw [e];exact mb.2.1
     ·rw [List.mem_singleton.mp e];exact mb.2.2
    walk_at "d"
    cases v with
    | non=>exact c4 ⟨_,rfl,_,rfl,b9 (b9 (bi ⟨_,rfl,rfl⟩))⟩
    | int z=>exact c4 ⟨_,rfl,_,rfl,bT ⟨_,rfl,z,rfl,_,rfl,b9 (bi ⟨_,rfl,rfl⟩)⟩⟩
    | _=>exact mv.elim
   ·obtain⟨v2',rfl,rfl⟩:=hh
    exact⟨_,_,rfl,g2.trans g3⟩
  ·obtain⟨_,_,rfl,g2⟩:=hh
   dsimp only
   exact bA (q H2 g2)
theorem pG {K:W.Frag}{la:Addr}{xs:List V}{sub:List Nat}{te:TE}{σ:St}{Q:VK}{H:Hp} (hn:xs.length < 1000) (ha:H la=some (.lst xs)) (hte:∀(v:V) (H2:Hp) (R:VK),R v H2->te (some v::bX sub σ) H2 R) (hq:∀D,H D=none->Q (.ref D) (upd H D (.lst xs))):lE (Itl K la) sub (λ_ H Q=>Q true H) te σ Q H:=by
 intro D nD
 have nl:la≠D:=af ha nD
 refine iD (K:=K) (a:=la) (xs:=xs) (sub:=sub) (tt:=λ_ H Q=>Q true H) (te:=te) (Q:=Q) (σ:=σ) (λi ys H2=>ys=xs.take i/\H2=upd H D (.lst ys)) ⟨by rw [List.take_zero],rfl⟩ (λi ys H2 _ hh=>?_) (λi x ys H2 hi hh=>?_) λys H2 hh=>?_
 ·obtain⟨_,rfl⟩:=hh
  exact SqL.of (by rw [ag nl];exact ha)
 ·obtain⟨rfl,rfl⟩:=hh
  have hil:=(List.getElem?_eq_some_iff.mp hi).1
  refine bT (hte x _ _ ⟨ae,?_,?_,eT⟩)
  ·rw [List.length_take];exact bo ‹1›
  ·rw [List.take_add_one,hi];rfl
 ·obtain⟨rfl,rfl⟩:=hh
  rw [List.take_length]
  exact hq D nD
theorem zH {B:Bk}{t u:Nat}{bs:List aO} (h:Boxes B t u B.ks bs) (nd:B.ks.Nodup) (c:Bool):(if c=true then dk B bs else bs)=kr B t u (phi B c) B.ks:=by
 cases c with
 | true=>exact(xB h).symm
 | false=>exact(xC h nd).1.symm
noncomputable def sX (v1 v2:V) (t u:Nat):Nat->List V
 | 0=>[v1,v2]
 | 1=>[.int (t:Int),v2]
 | _=>[.int (t:Int),.int (u:Int)]
inductive RgI (C L p:Addr) (a:BA) (F:Addr->Prop) (s:SA) (B:Bk) (v1 v2:V) (t u:Nat) (H:Hp) (Q:VK):Prop
 | mk (LL:Lm L H) (h:BkAt C H p a F B) (hF:∀b,F b->b≠L) (hs:StAt H s B) (T1:Turn B v1 t) (T2:Turn B v2 u) (q:∀H',Gm L H H'->Q (.bl true) H'):RgI C L p a F s B v1 v2 t u H Q
noncomputable def qe (C L:Addr):Sp:=λvs H Q _=>∃(p:Addr) (a:BA) (F:Addr->Prop) (s:SA) (B:Bk) (v1 v2:V) (t u:Nat),vs=[.ref p,.ref s.d,v1,v2]/\RgI C L p a F s B v1 v2 t u H Q
theorem j9 {L:Addr}{H1 H2 H3:Hp} (g:Gm L H1 H2) (w:aq H2 H3):Gm L H1 H3:=⟨λb o n e=>w _ _ (g.same b o n e),bE g.lam λb o e _ _=>w _ _ e⟩
inductive RtI (L:Addr) (H:Hp) (p sd tl:Addr) (v1 v2 now:V) (vv:Option V) (xs:Nat->List V) (i:Nat) (σ:St) (H2:Hp):Prop
 | mk (w6 w7 w8 w9 w10:Option V) (h1:σ=[some (.ref p),some (.ref sd),some v1,some v2,some now,some (.ref tl),w6,w7,w8,w9,w10]) (h2:Gm L H H2) (h3:H2 tl=some (.lst (xs i))):RtI L H p sd tl v1 v2 now vv xs i σ H2
theorem eC:FnScope ["_law_book", "_law_state_here", "_law_one", "_law_other", "_law_now", "_law_turns", "_law_k", "_law_values", "_law_due", "_law_lap", "_law_found"] ["_law_book", "_law_state_here", "_law_one", "_law_other"] (al oM):=‹2›
theorem uQ {f f1 f2 f3 C L:Addr}{fd:FuncData} (F:Fun K "_law_right" "_law_right" oM f fd) (N:Free mg){fd1:FuncData} (CB:Cal P w K mg base "_law_boxes" 2 ["_law_state_here", "_law_one", "_law_other", "_law_values"] n8 f1 fd1){fd2:FuncData} (CT:Cal P w K mg base "_law_told" 9 ["_law_book", "_law_one", "_law_other", "_law_values"] (tz C L) f2 fd2){fd3:FuncData} (CK:Cal P w K mg base "_law_kinds" 2 ["_law_boxes_here"] qi f3 fd3):FnOk P w K mg base CX0 10 f fd ["_law_book", "_law_state_here", "_law_one", "_law_other"] (qe C L):=by
 refine F.ok (k:=9) eC (λvs H Q E h=>?_) (λcdv A outer s H vs Q E hr h=>?_)
 ·obtain⟨p,a,F,s,B,v1,v2,t,u,rfl,_⟩:=h
  rfl
 ·obtain⟨p,a,F,s,B,v1,v2,t,u,rfl,⟨LL,h,hF,hs,T1,T2,q⟩⟩:=h
  have hu:=aS hr
  refine⟨_,(ah (aB (i:=4) eC.nd rfl (Or.inl rfl) (aG aV (by rfl) N.len PySem.boot_len (aa (bH hu (pv 1) bh (λ_ _=>rfl)) ad)))
   (ah (j6 (i:=5) eC.nd rfl (Or.inl rfl) (cH rfl (bC (be (aa (pv 2) (aa (pv 3) ad)))) rfl rfl (by show ∀p∈_,iH [] p;decide) (by decide) rfl (by show ([‹"_law_turn_here"›]:List Str).Nodup;decide) .nil (λC fp s H=>dE) (λC fp s H=>(pv 0))))
   (ah (bP PassesOwn.never rfl (cG rfl N.range (aa ai ad)) (ay (i:=6) eC.nd rfl (Or.inl rfl))
   (aj (aW (eX (iw (aH aR (pv 5) (pv 6) (λ_ _=>rfl)))) (aj (iu (pv 4) (mh (pv 5) (pv 6) gT))) aF)))
   (ah (bP PassesOwn.never rfl (bC (be (aa dA (aa dA ad)))) (ay (i:=7) eC.nd rfl (Or.inl rfl))
   (ah (aB (i:=8) eC.nd rfl (Or.inl rfl) (am CB.ok (hr.mono (by decide)) rfl CB.nm CB.kp CB.bd .nil ao (aa (pv 1) (aa (aH aR (pv 5) ai (λ_ _=>rfl)) (aa (aH aR (pv 5) ai (λ_ _=>rfl)) (aa (pv 7) ad))))))
   (aj (bP PassesOwn.never rfl (cG rfl N.range (aa ai ad)) (ay (i:=9) eC.nd rfl (Or.inl rfl))
   (ah (aB (i:=10) eC.nd rfl (Or.inl rfl) (am CT.ok (hr.mono (by decide)) rfl CT.nm CT.kp CT.bd .nil ao (aa (pv 0) (aa (pv 2) (aa (pv 3) (aa (pv 7) ad))))))
   (ah (aW (PW.pt (nB (bV (bL (aG bS (by rfl) N.isinstance PyProof.Rows.Boot.«isinstance» (aa (pv 10) (aa (de (v:=.ty "list") (by rfl) N.list PyProof.Rows.Boot.«list» rfl) ad))))) (nB (aQ (nM hr.units) (pv 10) (pv 8) (aN _)) (oY (bV (bL (am CK.ok (hr.mono (by decide)) rfl CK.nm CK.kp CK.bd .nil ao (aa (pv 10) ad)))))))) (aj (az dA)) aF)
   (aj (aM (yX PySem.F.plainAttrs_list PySem.F.slot_list_clear PySem.F.type_list_clear uZ (pv 10))))))))))
   (aj (az dA)))))),?_⟩
  obtain⟨pL,hL⟩:=LL.tbl
  have O:=h.ok
  have bkG:∀{H2:Hp},Gm L H H2->BkAt C H2 p a F B:=λg=>h.keep ⟨λb o f e=>g.same b o (hF b f) e,λb xs e=>g.tup LL e,λb c dx fs e=>g.same b _ (aD e hL (by intro z;cases z)) e⟩
  have stG:∀{H2:Hp},Gm L H H2->StAt H2 s B:=λg=>hs.keep (λb o sa e=>g.same b o (by
   rcases hs.kind sa with⟨ys,z⟩ | ⟨ys,z⟩
   ·exact aD z hL (by intro z;cases z)
   ·exact aD z hL (by intro z;cases z)) e) λb xs e=>g.tup LL e
  obtain⟨qs,e2,r2⟩:=id hs.he
  have lqs:qs.length=B.ds.length:=Paired.length r2
  refine au (aI ⟨_,rfl,s.d,_,rfl,hs.d_e,s.e,_,rfl,.inl (SqL.of e2),?_⟩)
  rw [List.length_map,lqs]
  walk_at "d"
  refine au (aI (fT ⟨_,rfl,_,rfl,by show 2<=sizeLine;decide,λl0 nl0=>?_⟩))
  have g1:Gm L H (upd H l0 (.lst [v1,v2])):=Go.new LL nl0
  have e1:upd H l0 (.lst [v1,v2]) l0=some (.lst [v1,v2]):=ae
  generalize upd H l0 (.lst [v1,v2])=H1 at g1 e1
  refine⟨l0,rfl,⟨_,SqL.of e1⟩,pG (by show 2 < 1000;decide) e1 (λv H2 R hR=>⟨_,rfl,hR⟩) λtl ntl=>?_⟩
  have g2:Gm L H (upd H1 tl (.lst [v1,v2])):=g1.trans (Go.new g1.lam ntl)
  have et:upd H1 tl (.lst [v1,v2]) tl=some (.lst [v1,v2]):=ae
  have ntl0:H tl=none:=Gm.free g1 ntl
  generalize upd H1 tl (.lst [v1,v2])=H2 at g2 et
  walk_at "d"
  refine uh (σ':=[some (.ref p),some (.ref s.d),some v1,some v2,some (.int (B.ds.length:Int)),some (.ref tl),none,none,none,none,none]) rfl ?_
  have ntL:tl≠L:=λz=>by rw [z]at ntl0;rw [hL]at ntl0;cases ntl0
  refine au ⟨2,rfl,by decide,by decide,iA (lo:=0) (n:=2) (RtI L H p s.d tl v1 v2 (.int (B.ds.length:Int)) none (sX v1 v2 t u)) ⟨none,none,none,none,none,rfl,g2,et⟩ (λi σ H3 hi hh=>?_) λσ H3 hh=>?_⟩
  ·obtain⟨w6,w7,w8,w9,w10,rfl,g3,e3⟩:=hh
   walk_at "d"
   rw [Int.zero_add]
   have put:∀(i:Nat) (v:V),Gm L H (upd H3 tl (.lst ((sX v1 v2 t u i).set i v))):=λi v=>⟨λb o n e=>by rw [ag (af e ntl0)];exact g3.same b o n e,bE g3.lam λb o e n1 _=>by rw [ag (λz=>by rw [z,e3]at e;exact n1 _ (Option.some.inj e).symm)];exact e⟩
   rcases (show i=0\/i=1 by omega) with rfl | rfl
   ·refine c4 ⟨_,rfl,_,rfl,tl,_,0,v1,rfl,rfl,SqL.of e3,rfl,_,rfl,?_⟩
    rcases T1.2 with⟨rfl,et1⟩ | rfl
    ·refine bT (aI ⟨_,rfl,_,rfl,_,rfl,tl,_,0,0,rfl,rfl,e3,rfl,?_⟩)
     refine⟨_,_,_,_,_,rfl,put 0 _,?_⟩
     rw [ae,<- et1]
     rfl
    ·exact b9 (bi ⟨_,_,_,_,_,rfl,g3,e3⟩)
   ·refine c4 ⟨_,rfl,_,rfl,tl,_,1,v2,rfl,rfl,SqL.of e3,rfl,_,rfl,?_⟩
    rcases T2.2 with⟨rfl,et1⟩ | rfl
    ·refine bT (aI ⟨_,rfl,_,rfl,_,rfl,tl,_,1,1,rfl,rfl,e3,rfl,?_⟩)
     refine⟨_,_,_,_,_,rfl,put 1 _,?_⟩
     rw [ae,<- et1]
     rfl
    ·exact b9 (bi ⟨_,_,_,_,_,rfl,g3,e3⟩)
  obtain⟨w6,w7,w8,w9,w10,rfl,g3,e3⟩:=hh
  dsimp only
  have e3:H3 tl=some (.lst [.int (t:Int),.int (u:Int)]):=e3
  refine au ⟨by show 2<=sizeLine;decide,λlv nlv=>?_⟩
  have g4:Gm L H3 (upd H3 lv (.lst [.bl false,.bl true])):=Go.new g3.lam nlv
  have ev:upd H3 lv (.lst [.bl false,.bl true]) lv=some (.lst [.bl false,.bl true]):=ae
  generalize upd H3 lv (.lst [.bl false,.bl true])=H4 at g4 ev
  have g04:=g3.trans g4
  have e4:=g4.lst g3.lam e3
  have nlv0:H lv=none:=Gm.free g3 nlv
  refine⟨lv,rfl,⟨_,SqL.of ev⟩,bO (K:=K) (a:=lv) (xs:=[.bl false,.bl true]) (λi σ H5=>RtI L H p s.d tl v1 v2 (.int (B.ds.length:Int)) none (λ_=>[.int (t:Int),.int (u:Int)]) i σ H5/\Gm L H4 H5) ⟨⟨_,_,_,_,_,rfl,g04,e4⟩,Go.refl g04.lam⟩ (λi σ H5 _ hh=>SqL.of (hh.2.lst g04.lam ev)) (λi v σ H5 hi hh=>?_) λσ H5 hh=>?_⟩
  ·obtain⟨⟨w6,w7,w8,w9,w10,rfl,g5,e5⟩,g45⟩:=hh
   obtain⟨c,rfl⟩:∃c,v=.bl c:=by
    rcases List.mem_cons.mp (List.mem_of_getElem? hi) with e | e
    ·exact⟨_,e⟩
    ·exact⟨_,List.mem_singleton.mp e⟩
   walk_at "d"
   refine au (aI ⟨_,rfl,_,rfl,tl,_,0,_,rfl,rfl,SqL.of e5,rfl,_,rfl,tl,_,1,_,rfl,rfl,SqL.of e5,rfl,_,rfl,s,B,t,u,c,rfl,⟨stG g5,O,λdd H6 ndd g6 hdd=>?_⟩⟩)
   walk_at "d"
   have g06:=j9 g5 g6
   have g56:Gm L H5 H6:=j9 (Go.refl g5.lam) g6
   refine⟨2,rfl,by decide,by decide,iA (lo:=0) (n:=2) (λj σ H7=>(∃w9 w10:Option V,σ=[some (.ref p),some (.ref s.d),some v1,some v2,some (.int (B.ds.length:Int)),some (.ref tl),w6,some (.bl c),some (.ref dd),w9,w10])/\Gm L H6 H7) ⟨⟨_,_,rfl⟩,Go.refl g06.lam⟩ (λj σ H7 hj hh=>?_) λσ H7 hh=>?_⟩
   ·obtain⟨⟨w9',w10',rfl⟩,g67⟩:=hh
    walk_at "d"
    have g07:=g06.trans g67
    refine au (aI ⟨_,rfl,_,rfl,_,rfl,_,rfl,p,a,F,B,v1,v2,t,u,c,rfl,⟨g07.lam,bkG g07,hF,T1,T2,λdf bs H8 ndf g78 hdf hB=>?_⟩⟩)
    walk_at "d"
    have edue:=zH hB O.nd c
    rw [edue]at hdf
    have g08:=g07.trans g78
    have hdd8:=(g67.trans g78).boxL g06.lam hdd
    obtain⟨as,edf,hpf⟩:=id hdf
    refine au (c4 ⟨_,rfl,.ref df,"list", _,true,rfl,.lst edf,by rfl,_,rfl,b9 ⟨_,rfl,_,rfl,_,_,(ig hdf).1,(ig hdd8).1,(ig hdf).2,(ig hdd8).2,true,⟨λ_=>rfl,λ_=>rfl⟩,_,rfl,b9 ⟨_,rfl,df,_,rfl,hdf,λH9 g89=>⟨_,rfl,b9 (bi ?_)⟩⟩⟩⟩)
    dsimp only
    have edf9:=g89 _ _ edf
    have ndf6:H6 df=none:=Gm.free g67 ndf
    refine cQ ⟨_,rfl,.inl ⟨rfl,_,SqL.of edf9⟩,df,_,rfl,rfl,edf9,⟨_,_,rfl⟩,?_⟩
    have g69:=j9 (g67.trans g78) g89
    exact⟨λb o n e=>by rw [ag (af e ndf6)];exact g69.same b o n e,bE g69.lam λb o e n1 _=>by rw [ag (λz=>by rw [z,edf9]at e;exact n1 _ (Option.some.inj e).symm)];exact e⟩
   ·obtain⟨⟨w9',w10',rfl⟩,g67⟩:=hh
    have g57:=g56.trans g67
    exact⟨⟨_,_,_,_,_,rfl,g5.trans g57,g57.lst g5.lam e5⟩,g45.trans g57⟩
  ·obtain⟨⟨w6,w7,w8,w9,w10,rfl,g5,e5⟩,g45⟩:=hh
   dsimp only
   exact bA (q H5 g5)
theorem uD {H:Hp}{lo hi i:Int} (h:i < lo):iW H lo hi (.int i):=.inr ⟨i,rfl,by rw [decide_eq_false ‹1›,Bool.false_and]⟩
theorem uE {H:Hp}{lo hi i:Int} (h:hi < i):iW H lo hi (.int i):=.inr ⟨i,rfl,by rw [decide_eq_false (show ¬i<=hi by omega),Bool.and_false]⟩
theorem zZ:(10:Int) ^ (20:Int).toNat=100000000000000000000:=‹0›
theorem zY:(10:Nat) ^ 30=1000000000000000000000000000000:=‹0›
theorem zm {H:Hp}{a t:Addr} (ha:H a=some (.lst [.int 0])) (ht:H t=some (.tup [.int 0])){n m:Int} (h0:0<=n) (h1:n < 8) (m0 : -1<=m) (m1:m<=100):∃v d,atI [V.int (-1),V.int (m+1),V.int (m+10 ^ (20:Int).toNat),V.int (0 - 10 ^ (20:Int).toNat),V.bl true,V.str ‹"0"›,V.ref a,V.ref t] n=some v/\ShN H v d/\iW H 0 m v/\v≠.non:=by
 have z:=zZ
 have y:=zY
 rcases (show n=0\/n=1\/n=2\/n=3\/n=4\/n=5\/n=6\/n=7 by omega) with rfl | rfl | rfl | rfl | rfl | rfl | rfl | rfl
 ·exact⟨_,_,rfl,iY ‹0›,uD ‹1›,nofun⟩
 ·exact⟨_,_,rfl,iY (by rw [y];omega),uE ‹1›,nofun⟩
 ·exact⟨_,_,rfl,iY (by rw [y,z];omega),uE (by rw [z];omega),nofun⟩
 ·exact⟨_,_,rfl,iY (by rw [z];decide +kernel),uD (by rw [z];omega),nofun⟩
 ·exact⟨_,_,rfl,yq,.inl (.inr (.inl ⟨_,rfl⟩)),nofun⟩
 ·exact⟨_,_,rfl,tN (.flat (.str _)) ‹0›,.inl (.inr (.inr (.inl ⟨_,rfl⟩))),nofun⟩
 ·exact⟨_,_,rfl,tN (.lst ha (.cons (.int 0) .nil)) ‹0›,.inl (.inr (.inr (.inr (.inl ⟨_,_,rfl,ha⟩)))),nofun⟩
 ·exact⟨_,_,rfl,tN (.tup ht (.cons (.int 0) .nil)) ‹0›,.inl (.inr (.inr (.inr (.inr ⟨_,_,rfl,ht⟩)))),nofun⟩
noncomputable def n9:Sp:=λvs H Q _=>∃(c k m:Int),vs=[.int c,.int k,.int m]/\0<=k/\k<=1000/\-1<=m/\m<=100/\∀v d H',aq H H'->ShN H' v d->iW H' 0 m v->v≠.non->Q v H'
noncomputable def pY:Sp:=λvs H Q _=>∃(c k:Int) (n:Nat),vs=[.int c,.int k,.int (n:Int)]/\0<=k/\k<=100/\∀(v:V) (t:Nat),t<=n->((v=.non/\t=n)\/v=.int (t:Int))->Q v H
theorem ww:FnScope ["_law_cell_here", "_law_k", "_law_now"] ["_law_cell_here", "_law_k", "_law_now"] (al oI):=‹2›
theorem uM {f f1:Addr}{fd:FuncData} (F:Fun K "_law_turn" "_law_turn" oI f fd){fd1:FuncData} (CD:Cal P w K mg base "_law_draw" 2 ["_law_cell_here", "_law_k", "_law_many"] gy f1 fd1):FnOk P w K mg base CX0 3 f fd ["_law_cell_here", "_law_k", "_law_now"] pY:=by
 refine F.ok (k:=2) ww (λvs H Q E h=>?_) (λcdv A outer s H vs Q E hr h=>?_)
 ·obtain⟨c,k,n,rfl,_⟩:=h
  rfl
 ·obtain⟨c,k,n,rfl,k0,k1,q⟩:=h
  have hu:=aS hr
  refine⟨_,(ah (aW (aQ dB (am CD.ok (hr.mono (by decide)) rfl CD.nm CD.kp CD.bd .nil ao (aa (pv 0) (aa (pv 1) (aa ai ad)))) ai (aN _)) (aj (az gC)) aF)
   (aj (az (am CD.ok (hr.mono (by decide)) rfl CD.nm CD.kp CD.bd .nil ao (aa (pv 0) (aa (aE bB (pv 1) ai) (aa (aE bB (pv 2) ai) ad))))))),?_⟩
  refine au (c4 ⟨_,rfl,_,rfl,c,k,8,rfl,k0,by omega,by decide,λm m0 m1=>⟨rfl,_,rfl,fM (λ_=>?_) λ_=>bi ?_⟩⟩)
  ·exact bA (q .non n (Nat.le_refl _) (.inl ⟨rfl,rfl⟩))
  ·dsimp only
   refine bA ⟨_,rfl,_,rfl,_,_,rfl,rfl,_,rfl,_,_,rfl,rfl,c,k+1,(n:Int)+1,rfl,by omega,by omega,by omega,λm m0 m1=>?_⟩
   obtain⟨t,rfl⟩:∃t:Nat,m=(t:Int):=⟨m.toNat,by omega⟩
   exact q _ t ‹1› (.inr rfl)
theorem wA:FnScope ["_law_cell_here", "_law_k", "_law_now"] ["_law_cell_here", "_law_k", "_law_now"] (al oN):=‹2›
theorem uR {f f1:Addr}{fd:FuncData} (F:Fun K "_law_none" "_law_none" oN f fd){fd1:FuncData} (CD:Cal P w K mg base "_law_draw" 2 ["_law_cell_here", "_law_k", "_law_many"] gy f1 fd1):FnOk P w K mg base CX0 3 f fd ["_law_cell_here", "_law_k", "_law_now"] n9:=by
 refine F.ok (k:=2) wA (λvs H Q E h=>?_) (λcdv A outer s H vs Q E hr h=>?_)
 ·obtain⟨c,k,m,rfl,_⟩:=h
  rfl
 ·obtain⟨c,k,m,rfl,k0,k1,m0,m1,q⟩:=h
  have hu:=aS hr
  refine⟨_,(@aj _ _ _ (@az _ _ _ _ (@aH _ _ _ _ _ _ _ aR (@be _ _ _ _ (@bR _ _ _ _ _ (@eE _ _ _ _ _ _ cM ai) (@bR _ _ _ _ _ (@aE _ _ _ _ _ _ _ _ bB (pv 2) ai) (@bR _ _ _ _ _ (@aE _ _ _ _ _ _ _ _ bB (pv 2) (@aE _ _ _ _ _ _ _ _ fL ai ai)) (@bR _ _ _ _ _ (@aE _ _ _ _ _ _ _ _ eY ai (@aE _ _ _ _ _ _ _ _ fL ai ai)) (@bR _ _ _ _ _ dA (@bR _ _ _ _ _ bh (@bR _ _ _ _ _ (@be _ _ _ _ (@bR _ _ _ _ _ ai ad rfl)) (@bR _ _ _ _ _ (@bz _ _ _ _ _ (@bR _ _ _ _ _ ai ad rfl)) ad rfl) rfl) rfl) rfl) rfl) rfl) rfl) rfl)) (am CD.ok (hr.mono (by decide)) rfl CD.nm CD.kp CD.bd .nil ao (@bR _ _ _ _ _ (pv 0) (@bR _ _ _ _ _ (pv 1) (@bR _ _ _ _ _ ai ad rfl) rfl) rfl)) (λ_ _=>rfl)))),?_⟩
  refine bA (As ⟨1,rfl,_,rfl,_,_,rfl,rfl,_,rfl,10,20,rfl,rfl,⟨by decide,by decide,by decide⟩,_,_,rfl,rfl,10,20,rfl,rfl,⟨by decide,by decide,by decide⟩,_,_,rfl,rfl,by show 1<=sizeLine;decide,λa na=>⟨by show 1<=sizeLine;decide,λt nt=>⟨by show 8<=sizeLine;decide,λl nl=>?_⟩⟩⟩)
  refine⟨_,rfl,_,rfl,c,k,8,rfl,k0,k1,by decide,λn n0 n1=>?_⟩
  have g:=(aq.new na).trans ((aq.new nt).trans (aq.new nl (o:=.lst [V.int (-1),V.int (m+1),V.int (m+10 ^ (20:Int).toNat),V.int (0 - 10 ^ (20:Int).toNat),V.bl true,V.str ‹"0"›,V.ref a,V.ref t])))
  have ha:=aq.new nl (o:=.lst [V.int (-1),V.int (m+1),V.int (m+10 ^ (20:Int).toNat),V.int (0 - 10 ^ (20:Int).toNat),V.bl true,V.str ‹"0"›,V.ref a,V.ref t]) a _ (aq.new nt a _ ae)
  have ht:=aq.new nl (o:=.lst [V.int (-1),V.int (m+1),V.int (m+10 ^ (20:Int).toNat),V.int (0 - 10 ^ (20:Int).toNat),V.bl true,V.str ‹"0"›,V.ref a,V.ref t]) t _ ae
  obtain⟨v,d,ev,sv,bv,nv⟩:=zm ha ht n0 n1 m0 m1
  exact⟨l,_,n,v,rfl,rfl,SqL.of ae,ev,q v d _ g sv bv nv⟩
theorem xp (C U:Addr):(io C U).contains (Value.ref C)=true:=by
 unfold io
 simp
inductive RfI (C p:Addr) (a:BA) (F:Addr->Prop) (B:Bk) (v1 v2 vd:V) (CT:Addr) (H:Hp) (Q:VK):Prop
 | mk (d:PyData) (h:BkAt C H p a F B) (hx:∀E,dH CT [("turn", vd)] H E->UnX B v1 v2 CT H E) (hs:ShN H vd d) (q:∀H',aq H H'->Q (.bl true) H'):RfI C p a F B v1 v2 vd CT H Q
noncomputable def tE (C CT:Addr):Sp:=λvs H Q _=>∃(p:Addr) (a:BA) (F:Addr->Prop) (B:Bk) (v1 v2 vd:V) (c:Bool),vs=[.ref p,v1,v2,vd,.bl c]/\RfI C p a F B v1 v2 vd CT H Q
theorem jo:FnScope ["_law_book", "_law_one", "_law_other", "_law_due", "_law_values", "_law_found", "e"] ["_law_book", "_law_one", "_law_other", "_law_due", "_law_values"] (al u5):=‹2›
theorem x6 {f f1 f2 C CT:Addr}{fd:FuncData} (F:Fun K "_law_refused" "_law_refused" u5 f fd) (N:Free mg){fd1:FuncData} (CT_:CalX P w K mg base "_law_told" 9 ["_law_book", "_law_one", "_law_other", "_law_values"] (pZ C CT) f1 fd1){U:Addr}{fd2:FuncData} (RT:Rf1 P w K mg base "NoTurn" CT U "turn" f2 fd2) (hT:hIn K CT=true) (mU:mg "UnsayError" = some (.ref U)) (hU:hIn K U=true) (hRe:mg "repr" = none):FnOk P w K mg base CX0 10 f fd ["_law_book", "_law_one", "_law_other", "_law_due", "_law_values"] (tE C CT):=by
 refine F.ok (k:=9) jo (λvs H Q E h=>?_) (λcdv A outer s H vs Q E hr h=>?_)
 ·obtain⟨p,a,F,B,v1,v2,vd,c,rfl,_⟩:=h
  rfl
 ·obtain⟨p,a,F,B,v1,v2,vd,c,rfl,⟨d,h,hx,hs,q⟩⟩:=h
  have hu:=aS hr
  refine⟨_,(ah (aB (i:=5) jo.nd rfl (Or.inl rfl) bh)
   (ah (wK rfl rfl (λE1 xe pn hp=>(aj (aM (uC CT_.ok (hr.mono (by decide)) rfl CT_.nm CT_.kp CT_.bd hp (bR (pv 0) (bR (pv 1) (bR (pv 2) (bR (pv 4) ad)))))))) (AB hr.hd hT rfl RT.nm jo.nd (i:=6) rfl rfl (λa=>(aj (aB (i:=5) jo.nd rfl (Or.inl rfl) (aG (ln hr.gd hr.units) (by rfl) hRe PyProof.Rows.Boot.«repr» (bR (wO (pv 6)) ad))))) (wN hr.hd hU rfl mU (λa=>(aj (aB (i:=5) jo.nd rfl (Or.inl rfl) bh))) yT)))
   (aj (az (cS dB (pv 5) (aG (ln hr.gd hr.units) (by rfl) hRe PyProof.Rows.Boot.«repr» (bR (pv 3) ad)) (aN _)))))),?_⟩
  refine au (aI ?_)
  refine uh (σ':=[some (.ref p),some v1,some v2,some vd,some (.bl c),some (.str ‹"done"›),none]) rfl ?_
  refine au ⟨λσ' C' oa H'=>σ'=[some (.ref p),some v1,some v2,some vd,some (.bl c),some (.str ‹"done"›),none]/\C'=Value.ref CT/\∃a,oa=some a/\aq H H'/\XAt H' a CT [("turn", vd)],?_,?_⟩
  ·exact cQ ⟨_,rfl,_,rfl,_,rfl,_,rfl,p,a,F,B,v1,v2,c,rfl,h,hx _ λa H' g n xa=>⟨rfl,rfl,a,rfl,g,xa⟩⟩
  rintro C' a0 Dd H1 σ' hx1 ⟨rfl,ec,a',ea,g1,xa⟩
  cases ec
  cases ea
  refine⟨U,RT.cl,?_⟩
  rw [if_pos (xp _ _)]
  dsimp only [List.set_cons_zero,List.set_cons_succ]
  have hs1:=hs.keep g1
  refine aI ⟨_,rfl,a0,CT,U,_,_,rfl,xa,RT.cl,RT.nf,rfl,vd,d,rfl,hs1.1.1,hs1.1.2.1,hs1.1.2.2.1,hs1.1.2.2.2.1,hs1.1.2.2.2.2,?_⟩
  walk_at "d"
  refine bA ⟨_,rfl,_,rfl,vd,d,rfl,hs1.1.1,hs1.1.2.1,hs1.1.2.2.1,hs1.1.2.2.2.1,hs1.1.2.2.2.2,rfl,?_⟩
  rw [decide_eq_true rfl]
  exact q H1 g1
end Mine
namespace L2
open PySem PySem.Spec PyProof.Rows
structure PR where
 p:Addr
 a:BA
 F:Addr->Prop
 s:SA
 B:Bk
def PR.In (r:PR) (b:Addr):Prop:=r.F b\/r.s.At b
structure Duo (C L:Addr) (O:Addr->Prop) (Hk:Hp) (n:Nat) (R:Nat->PR) (H:Hp):Prop where
 pr:∀i,i < n->Pair C L H (R i).p (R i).a (R i).F (R i).s (R i).B
 di:∀i j,i < n->j < n->i≠j->∀b,(R i).In b->¬(R j).In b
 nw:∀i,i < n->∀b,(R i).In b->¬O b
 ok:∀b o,O b->Hk b=some o->H b=some o
 od:∀b,O b->Hk b≠none/\b≠L
theorem BkAt.kinds {C:Addr}{H:Hp}{p:Addr}{a:BA}{F:Addr->Prop}{B:Bk} (h:BkAt C H p a F B){b:Addr} (m:a.M b):(∃xs,H b=some (.lst xs))\/∃xs,H b=some (.dK xs):=by
 obtain⟨ps,e1,_⟩:=h.hf
 obtain⟨qs,e2,_⟩:=h.hd
 obtain⟨ts,e3,_,_⟩:=h.ht
 rcases m with m | m | m | m
 ·exact .inl ⟨_,by rw [m];exact e1⟩
 ·exact .inr ⟨_,by rw [m];exact h.hw⟩
 ·exact .inl ⟨_,by rw [m];exact e2⟩
 ·exact .inl ⟨_,by rw [m];exact e3⟩
theorem Pair.there {C L:Addr}{H:Hp}{r:PR} (h:Pair C L H r.p r.a r.F r.s r.B){b:Addr} (i:r.In b):H b≠none:=by
 rcases i with i | i
 ·exact(h.fd b i).1
 ·rcases h.st.kind i with⟨xs,e⟩ | ⟨xs,e⟩ <;> rw [e] <;> intro z <;> cases z
theorem Duo.grow {C L:Addr}{O:Addr->Prop}{Hk H H':Hp}{n:Nat}{R:Nat->PR} (D:Duo C L O Hk n R H) (g:∀b o,H b=some o->H' b=some o):Duo C L O Hk n R H':=
 ⟨λi hi=>(D.pr i hi).grow g,D.di,D.nw,λb o ob e=>g b o (D.ok b o ob e),D.od⟩
noncomputable def upR (R:Nat->PR) (w:Nat) (F':Addr->Prop) (B':Bk) (i:Nat):PR:=if i=w then ⟨(R w).p,(R w).a,F',(R w).s,B'⟩ else R i
theorem jd {R:Nat->PR}{w:Nat}{F':Addr->Prop}{B':Bk}:upR R w F' B' w=⟨(R w).p,(R w).a,F',(R w).s,B'⟩:=if_pos rfl
theorem lG {R:Nat->PR}{w i:Nat}{F':Addr->Prop}{B':Bk} (h:i≠w):upR R w F' B' i=R i:=if_neg h
theorem Duo.done {C L:Addr}{O:Addr->Prop}{Hk H H':Hp}{n w:Nat}{R:Nat->PR}{ps:Array Value}{F':Addr->Prop}{B':Bk} (D:Duo C L O Hk n R H) (hL:H L=some (.tbl ps)) (hw:w < n)
  (P':Pair C L H' (R w).p (R w).a F' (R w).s B') (f1:∀b,F' b->(R w).F b\/H b=none) (g:∀b o,H b=some o->b≠L->¬(R w).a.M b->¬(R w).s.At b->H' b=some o):Duo C L O Hk n (upR R w F' B') H':=by
 have hP:=D.pr w hw
 have old:∀i b,i < n->(upR R w F' B' i).In b->(R i).In b\/H b=none:=λi b hi h=>by
  by_cases hiw:i=w
  ·subst hiw
   rw [jd]at h
   rcases h with h | h
   ·rcases f1 b h with q | q
    ·exact .inl (.inl q)
    ·exact .inr q
   ·exact .inl (.inr h)
  ·rw [lG hiw]at h;exact .inl h
 have inn:∀i b,i < n->(upR R w F' B' i).In b->H b=none\/(R i).In b:=λi b hi h=>(old i b hi h).symm
 refine⟨λi hi=>?_,λi j hi hj hij b h1 h2=>?_,λi hi b hb ob=>?_,λb o ob e=>?_,D.od⟩
 ·by_cases hiw:i=w
  ·subst hiw;rw [jd];exact P'
  ·rw [lG hiw]
   refine(D.pr i hi).other (G:=(R w).a.M) (r:=(R w).s) hL (λb f=>⟨λm=>D.di i w hi hw hiw b (.inl f) (.inl (hP.bk.M_F m)),λm=>D.di i w hi hw hiw b (.inl f) (.inr m)⟩)
    (λb f=>⟨λm=>D.di i w hi hw hiw b (.inr f) (.inl (hP.bk.M_F m)),λm=>D.di i w hi hw hiw b (.inr f) (.inr m)⟩) (λb o m e=>?_) (λb m=>?_) g
   ·rcases hP.st.kind m with⟨xs,q⟩ | ⟨xs,q⟩
    ·rw [e]at q;exact .inl ⟨xs,Option.some.inj q⟩
    ·rw [e]at q;exact .inr ⟨xs,Option.some.inj q⟩
   ·rcases hP.bk.kinds m with⟨xs,q⟩ | ⟨xs,q⟩
    ·exact⟨λys z=>(by rw [q]at z;cases z),λc dx fs z=>(by rw [q]at z;cases z)⟩
    ·exact⟨λys z=>(by rw [q]at z;cases z),λc dx fs z=>(by rw [q]at z;cases z)⟩
 ·rcases old i b hi h1 with q | q
  ·rcases old j b hj h2 with q2 | q2
   ·exact D.di i j hi hj hij b q q2
   ·exact(D.pr i hi).there q q2
  ·by_cases hiw:i=w
   ·subst hiw
    rw [lG (λz=>hij z.symm)]at h2
    exact(D.pr j hj).there h2 q
   ·rw [lG hiw]at h1
    exact(D.pr i hi).there h1 q
 ·rcases old i b hi hb with q | q
  ·exact D.nw i hi b q ob
  ·have:=(D.od b ob).1
   cases e:Hk b with
   | none=>exact this e
   | some o=>rw [D.ok b o ob e]at q;cases q
 ·exact g b o (D.ok b o ob e) (D.od b ob).2 (λm=>D.nw w hw b (.inl (hP.bk.M_F m)) ob) λm=>D.nw w hw b (.inr m) ob
noncomputable def moR (R:Nat->PR) (n:Nat) (r:PR) (i:Nat):PR:=if i=n then r else R i
theorem Duo.more {C L:Addr}{O:Addr->Prop}{Hk H:Hp}{n:Nat}{R:Nat->PR} (D:Duo C L O Hk n R H){r:PR} (h:Pair C L H r.p r.a r.F r.s r.B) (hn:∀b,r.In b->¬O b/\∀i,i < n->¬(R i).In b):Duo C L O Hk (n+1) (moR R n r) H:=by
 have e1:moR R n r n=r:=if_pos rfl
 have e2:∀i,i < n+1->i≠n->moR R n r i=R i/\i < n:=λi hi h=>⟨if_neg h,by omega⟩
 refine⟨λi hi=>?_,λi j hi hj hij b h1 h2=>?_,λi hi b hb ob=>?_,D.ok,D.od⟩
 ·by_cases z:i=n
  ·rw [z,e1];exact h
  ·rw [(e2 i hi z).1];exact D.pr i (e2 i hi z).2
 ·by_cases z:i=n
  ·rw [z,e1]at h1
   have zj:j≠n:=λw=>hij (by rw [z,w])
   rw [(e2 j hj zj).1]at h2
   exact(hn b h1).2 j (e2 j hj zj).2 h2
  ·rw [(e2 i hi z).1]at h1
   by_cases zj:j=n
   ·rw [zj,e1]at h2
    exact(hn b h2).2 i (e2 i hi z).2 h1
   ·rw [(e2 j hj zj).1]at h2
    exact D.di i j (e2 i hi z).2 (e2 j hj zj).2 hij b h1 h2
 ·by_cases z:i=n
  ·rw [z,e1]at hb;exact(hn b hb).1 ob
  ·rw [(e2 i hi z).1]at hb;exact D.nw i (e2 i hi z).2 b hb ob
abbrev Gw (H H':Hp):Prop:=∀b o,H b=some o->H' b=some o
theorem Duo.re {C L:Addr}{O O':Addr->Prop}{Hk H:Hp}{n:Nat}{R:Nat->PR} (D:Duo C L O Hk n R H) (h1:∀i,i < n->∀b,(R i).In b->¬O' b) (h2:∀b,O' b->H b≠none/\b≠L):Duo C L O' H n R H:=
 ⟨D.pr,D.di,h1,λ_ _ _ e=>e,h2⟩
end L2
namespace Mine
open PySem L2
variable {P:Program}{w:World}{K:W.Frag}{mg:Str->Option Value}{base:Heap}
noncomputable abbrev rC:Stmt:=top 61
theorem fw {K:W.Frag}{H H':Hp}{a L:Addr}{xs:List V}{pL:Array Value} (h:SqL K H a xs) (hL:H L=some (.tbl pL)) (g:∀b o,H b=some o->b≠L->H' b=some o):SqL K H' a xs:=by
 rcases h with(h | ⟨o,h⟩) | h
 ·exact .inl (.inl (g _ _ h (aD h hL (by intro z;cases z))))
 ·exact .inl (.inr ⟨o,g _ _ h (aD h hL (by intro z;cases z))⟩)
 ·exact .inr h
theorem wm {i:Int} (h0:0<=i) (h1:i < 4):∃s:Int,(s=40\/s=400)/\atI [V.int 40,V.int 40,V.int 40,V.int 400] i=some (V.int s):=by
 rcases (show i=0\/i=1\/i=2\/i=3 by omega) with rfl | rfl | rfl | rfl
 ·exact⟨40,.inl rfl,rfl⟩
 ·exact⟨40,.inl rfl,rfl⟩
 ·exact⟨40,.inl rfl,rfl⟩
 ·exact⟨400,.inr rfl,rfl⟩
theorem xF {xs:List V}:(cutV xs (some 2) (some 50)).length<=48:=by
 unfold cutV
 rw [List.length_take]
 refine Nat.le_trans (Nat.min_le_left _ _) ?_
 show min 50 xs.length - min 2 xs.length<=48
 generalize xs.length=n
 rcases Nat.le_total 2 n with h | h
 ·rw [Nat.min_eq_left h]
  exact Nat.sub_le_sub_right (Nat.min_le_left 50 n) 2
 ·rw [Nat.min_eq_right h,Nat.min_eq_right (Nat.le_trans h (by decide)),Nat.sub_self]
  exact Nat.zero_le _
theorem qM {ns:List Int}{lo hi:Option Int}{z:V} (h:z∈cutV (ns.map V.int) lo hi):∃c:Int,z=.int c:=by
 unfold cutV at h
 obtain⟨c,_,rfl⟩:=List.mem_map.mp (List.mem_of_mem_drop (List.mem_of_mem_take h))
 exact⟨c,rfl⟩
theorem vQ {C L:Addr}{H4 H5 H8:Hp}{x:Addr}{a:BA}{F:Addr->Prop}{s:SA}{ks:List Str}{pL:Array Value} (fF:∀b,F b->H4 b=none) (g5:Gw H4 H5) (bk:BkAt C H5 x a F (Bk.new ks)) (e4k:H4 s.k≠none)
  (g8:Gw H5 H8) (st:StAt H8 s (Bk.new ks)) (nS:∀b,s.At b->b≠s.k->H5 b=none) (hL:H4 L=some (.tbl pL)):Pair C L H8 x a (λb=>F b/\H5 b≠none) s (Bk.new ks):=by
 refine⟨bk.dom.keep ⟨λb o _ e=>g8 b o e,λb xs e=>g8 b _ e,λb c dx fs e=>g8 b _ e⟩,st,λb f=>⟨xQ g8 f.2,λz=>?_⟩,λb sa f=>?_⟩
 ·have:=fF b f.1
  rw [z,hL]at this
  cases this
 ·by_cases z:b=s.k
  ·exact e4k (by rw [<- z];exact fF b f.1)
  ·exact f.2 (nS b sa z)
theorem my {K:W.Frag}{sub:List Nat}{te:TE}{σ:St}{H:Hp}{Q:VK}{sa:Addr}{xs:List V}{n:Nat} (P:V->Prop) (hS:SqL K H sa xs) (hn:n<=1000) (hte:∀(i:Nat) (H2:Hp) (R:VK),i < n->SqL K H2 sa xs->(∀y,P y->R y H2)->te (some (.int (0+(i:Int)))::bX sub σ) H2 R)
  (hq:∀(D:Addr) (ys:List V),H D=none->ys.length=n->(∀(i:Nat) (y:V),ys[i]?=some y->P y)->Q (.ref D) (upd H D (.lst ys))):lE (Itr 0 n) sub (λ_ H Q=>Q true H) te σ Q H:=by
 intro D nD
 have hS':∀ys,SqL K (upd H D (.lst ys)) sa xs:=λys=>by
  rcases hS with(h | ⟨o,h⟩) | h
  ·exact .inl (.inl (by rw [ag (af h nD)];exact h))
  ·exact .inl (.inr ⟨o,by rw [ag (af h nD)];exact h⟩)
  ·exact .inr h
 refine fg (lo:=0) (n:=n) (sub:=sub) (tt:=λ_ H Q=>Q true H) (te:=te) (Q:=Q) (σ:=σ) (λi ys H2=>ys.length=i/\(∀(j:Nat) (y:V),ys[j]?=some y->P y)/\H2=upd H D (.lst ys)) ⟨rfl,(λj y e=>by simp at e),rfl⟩ (λi ys H2 hi hh=>?_) λys H2 hh=>?_
 ·obtain⟨e1,e2,rfl⟩:=hh
  refine bT (hte i _ _ hi (hS' ys) λy hy=>⟨ae,bo ‹1›,by rw [List.length_append,e1];rfl,λj z ez=>?_,eT⟩)
  rcases List.mem_append.mp (List.mem_of_getElem? ez) with h | h
  ·obtain⟨k,hk⟩:=List.getElem?_of_mem h
   exact e2 k z hk
  ·rw [List.mem_singleton.mp h];exact hy
 ·obtain⟨e1,e2,rfl⟩:=hh
  exact hq D ys nD e1 e2
theorem j7 {C L p:Addr}{a:BA}{F:Addr->Prop}{s:SA}{B:Bk}{H H':Hp} (P:Pair C L H p a F s B) (LL:Lm L H) (g:Gm L H H'):Pair C L H' p a F s B:=by
 obtain⟨pL,hL⟩:=LL.tbl
 refine⟨P.bk.keep ⟨λb o f e=>g.same b o (P.fd b f).2 e,λb xs e=>g.tup LL e,λb c dx fs e=>g.same b _ (aD e hL (by intro z;cases z)) e⟩,P.st.keep (λb o sa e=>g.same b o ?_ e) (λb xs e=>g.tup LL e),λb f=>⟨λz=>?_,(P.fd b f).2⟩,P.sf⟩
 ·rcases P.st.kind sa with⟨ys,z⟩ | ⟨ys,z⟩
  ·exact aD z hL (by intro z;cases z)
  ·exact aD z hL (by intro z;cases z)
 ·have hn:=(P.fd b f).1
  cases e:H b with
  | none=>exact hn e
  | some o=>rw [g.same b o (P.fd b f).2 e]at z;cases z
theorem zG {C L:Addr}{O:Addr->Prop}{Hk H H':Hp}{n:Nat}{R:Nat->PR} (D:Duo C L O Hk n R H) (LL:Lm L H) (g:Gm L H H'):Duo C L O Hk n R H':=
 ⟨λi hi=>j7 (D.pr i hi) LL g,D.di,D.nw,λb o ob e=>g.same b o (D.od b ob).2 (D.ok b o ob e),D.od⟩
noncomputable def zJ (d:iG):PySem.W.Dat:=.tuple [.str d.1,.int d.2]
theorem iB {H:Hp}:∀{qs:List Addr}{ds:List iG},fk H qs ds->DatVs H (qs.map V.ref) (ds.map zJ)
 | _,_,.nil=>.nil
 | _,_,.cons a r=>.cons (.tup a (.cons (.str _) (.cons (.int _) .nil))) (iB r)
theorem vI {ds:List iG} (h:∀d∈ds,Nm d.1):PySem.W.kqdOk 9 (.list (ds.map zJ))=true:=by
 show (ds.map zJ).all (PySem.W.kqdOk 8)=true
 refine List.all_eq_true.mpr λx hx=>?_
 obtain⟨d,hd,rfl⟩:=List.mem_map.mp hx
 show [PySem.W.Dat.str d.1,.int d.2].all (PySem.W.kqdOk 7)=true
 rw [List.all_cons,show PySem.W.kqdOk 7 (.str d.1)=true from h d hd]
 rfl
theorem vM {sub:List Nat}{te:TE}{σ:St}{H:Hp}{Q:VK}{ds:List iG} (hn:ds.length<=1000) (hte:∀(i:Nat) (d:iG) (H2:Hp) (R:VK),ds[i]?=some d->aq H H2->(∀q,H2 q=some (.tup (sY d))->R (.ref q) H2)->te (some (.int (0+(i:Int)))::bX sub σ) H2 R)
  (hq:∀(D:Addr) (qs:List Addr) (H':Hp),H D=none->aq H H'->H' D=some (.lst (qs.map V.ref))->fk H' qs ds->Q (.ref D) H'):lE (Itr 0 ds.length) sub (λ_ H Q=>Q true H) te σ Q H:=by
 intro D nD
 refine fg (lo:=0) (n:=ds.length) (sub:=sub) (tt:=λ_ H Q=>Q true H) (te:=te) (Q:=Q) (σ:=σ) (λi ys H2=>∃qs:List Addr,ys=qs.map V.ref/\aq H H2/\H2 D=some (.lst ys)/\fk H2 qs (ds.take i)) ⟨[],rfl,aq.new nD,ae,.nil⟩ (λi ys H2 hi hh=>?_) λys H2 hh=>?_
 ·obtain⟨qs,rfl,g2,e2,p2⟩:=hh
  have ed:ds[i]?=some ds[i]:=List.getElem?_eq_getElem hi
  generalize ds[i]'hi=d at ed
  have hl:qs.length=(ds.take i).length:=Paired.length p2
  rw [List.length_take]at hl
  refine bT (hte i d _ _ ed g2 λq hq'=>⟨e2,by rw [List.length_map];exact bo ‹1›,qs++[q],by rw [List.map_append];rfl,λb o e=>by rw [ag (af e nD)];exact g2 _ _ e,ae,?_⟩)
  have kp:∀b xs,H2 b=some (.tup xs)->upd H2 D (.lst (qs.map V.ref++[.ref q])) b=some (.tup xs):=λb xs e=>by rw [ag (aD e e2 (λz=>nomatch z))];exact e
  rw [List.take_add_one,ed]
  exact Paired.snoc (Paired.mapP p2 λ_ _ e=>kp _ _ e) (kp _ _ hq')
 ·obtain⟨qs,rfl,g2,e2,p2⟩:=hh
  rw [List.take_length]at p2
  exact hq D qs H2 nD g2 e2 p2
noncomputable def qg (K:PySem.W.Frag) (C L:Addr):Sp:=λvs H Q _=>∃(a:Addr) (ns:List Int),vs=[.ref a]/\Lm L H/\SqL K H a (ns.map V.int)/\ns.length<=63/\∀H',Q (.bl true) H'
theorem dN:FnScope ["_law_script", "_law_keys_here", "_law_book", "_law_state_here", "_law_span", "_law_cell_here", "_law_now", "_law_some", "_law_one", "_law_other", "_law_bad", "_law_worse", "_law_values", "_law_deeds"] ["_law_script"] (al rC):=‹2›
theorem zf {f f1 f2 f3 f4 f5 f6 f7 f8 f9 f10 f11 f12 C L CT:Addr}{fd:FuncData} (F:Fun K "law" "law" rC f fd) (N:Free mg){fd1:FuncData} (CE:Cal P w K mg base "_law_cell" 1 ["_law_script", "_law_k"] (tK K) f1 fd1){fd2:FuncData} (CK:Cal P w K mg base "_law_keys" 3 ["_law_cell_here"] tF f2 fd2){fd3:FuncData} (CA:Cal P w K mg base "_law_state" 1 ["_law_keys_here"] qc f3 fd3){fd4:FuncData} (CO:Cal P w K mg base "_law_done" 7 ["_law_book", "_law_state_here", "_law_cell_here", "_law_span"] (tI C L) f4 fd4){fd5:FuncData} (CR:Cal P w K mg base "_law_right" 10 ["_law_book", "_law_state_here", "_law_one", "_law_other"] (qe C L) f5 fd5){fd6:FuncData} (CM:Cal P w K mg base "_law_mix" 1 ["_law_cell_here", "_law_k"] qf f6 fd6){fd7:FuncData} (CU:Cal P w K mg base "_law_turn" 3 ["_law_cell_here", "_law_k", "_law_now"] pY f7 fd7){fd8:FuncData} (CN:Cal P w K mg base "_law_none" 3 ["_law_cell_here", "_law_k", "_law_now"] n9 f8 fd8){fd9:FuncData} (CF:Cal P w K mg base "_law_refused" 10 ["_law_book", "_law_one", "_law_other", "_law_due", "_law_values"] (tE C CT) f9 fd9){fd10:FuncData} (MN:MC P w K mg base C "now" 1 ["self"] [] [] (iM C) f10 fd10){fd11:FuncData} (MT:MC P w K mg base C "deed_at" 2 ["self", "turn"] [] [] (mZ C) f11 fd11) (MK:Mk K C f12){fd12:FuncData} (GI:FnOk P w K mg base CX0 4 f12 fd12 ["self", "keys"] (tG C)) (bI:cj K fd12 ["self", "keys"] []) (mC:mg "Book" = some (.ref C)):FnOk P w K mg base CX0 11 f fd ["_law_script"] (qg K C L):=by
 refine F.ok (k:=10) dN (λvs H Q E h=>?_) (λcdv A outer s H vs Q E hr h=>?_)
 ·obtain⟨sa,ns,rfl,_⟩:=h
  rfl
 ·obtain⟨sa,ns,rfl,LL,hS,h63,q⟩:=h
  have hu:=aS hr
  refine⟨_,(ah (aB (i:=1) dN.nd rfl (Or.inl rfl) (am CK.ok (hr.mono (by decide)) rfl CK.nm CK.kp CK.bd .nil ao (aa (am CE.ok (hr.mono (by decide)) rfl CE.nm CE.kp CE.bd .nil ao (aa (pv 0) (aa ai ad))) ad)))
   (ah (aB (i:=2) dN.nd rfl (Or.inr rfl) (wQ MK GI (hr.mono (by decide)) rfl mC bI .nil ao (aa (cI cU (by rfl) N.list PyProof.Rows.Boot.«list» (aa (pv 1) ad)) ad)))
   (ah (aB (i:=3) dN.nd rfl (Or.inl rfl) (am CA.ok (hr.mono (by decide)) rfl CA.nm CA.kp CA.bd .nil ao (aa (pv 1) ad)))
   (ah (aB (i:=4) dN.nd rfl (Or.inl rfl) (aH aR (be (aa ai (aa ai (aa ai (aa ai ad))))) (aE dS (aE wT (am CE.ok (hr.mono (by decide)) rfl CE.nm CE.kp CE.bd .nil ao (aa (pv 0) (aa ai ad))) ai) ai) (λ_ _=>rfl)))
   (ah (aW (bV (bL (am CR.ok (hr.mono (by decide)) rfl CR.nm CR.kp CR.bd .nil ao (aa (pv 2) (aa (pv 3) (aa ai (aa gC ad))))))) (aj (az dA)) aF)
   (ah (bP PassesOwn.never rfl (bC (aE p6 (cq qo (pv 0) (cw ai) (cw ai)) (be (aa ai (aa ai (aa ai ad)))))) (ay (i:=5) dN.nd rfl (Or.inl rfl))
   (aj (aW (bV (bL (am CO.ok (hr.mono (by decide)) rfl CO.nm CO.kp CO.bd .nil ao (aa (pv 2) (aa (pv 3) (aa (pv 5) (aa (pv 4) ad))))))) (aj (az dA)) aF)))
   (ah (aB (i:=6) dN.nd rfl (Or.inl rfl) (aG aV (by rfl) N.len PySem.boot_len (aa (bH hu (pv 3) bh (λ_ _=>rfl)) ad)))
   (ah (j6 (i:=7) dN.nd rfl (Or.inl rfl) (cH rfl (cG rfl N.range (aa ai ad)) rfl rfl (by show ∀p∈_,iH [‹"_law_script"›] p;decide) (by decide) rfl (by show ([‹"_law_k"›, ‹"_law_script"›]:List Str).Nodup;decide) (.cons (i:=0) rfl (.inr (.inl rfl)) (by show (some NameKind.cell)≠some NameKind.local;decide) (.inl rfl) rfl .nil) (λC fp s H=>dE) (λC fp s H=>(am CM.ok (hr.mono (by decide)) rfl CM.nm CM.kp CM.bd .nil ao (aa (am CE.ok (hr.mono (by decide)) rfl CE.nm CE.kp CE.bd .nil ao (aa (pv 1) (aa ai ad))) (aa (aE bB ai (pv 0)) ad))))))
   (ah (bP PassesOwn.never rfl (bC (aE p6 (cq qo (pv 0) (cw ai) (cw ai)) (pv 7))) (ay (i:=5) dN.nd rfl (Or.inl rfl))
   (ah (aB (i:=8) dN.nd rfl (Or.inl rfl) (am CU.ok (hr.mono (by decide)) rfl CU.nm CU.kp CU.bd .nil ao (aa (pv 5) (aa ai (aa (pv 6) ad)))))
   (ah (aB (i:=9) dN.nd rfl (Or.inl rfl) (am CU.ok (hr.mono (by decide)) rfl CU.nm CU.kp CU.bd .nil ao (aa (pv 5) (aa ai (aa (pv 6) ad)))))
   (ah (aW (bV (bL (am CR.ok (hr.mono (by decide)) rfl CR.nm CR.kp CR.bd .nil ao (aa (pv 2) (aa (pv 3) (aa (pv 8) (aa (pv 9) ad))))))) (aj (az dA)) aF)
   (ah (aB (i:=10) dN.nd rfl (Or.inl rfl) (am CN.ok (hr.mono (by decide)) rfl CN.nm CN.kp CN.bd .nil ao (aa (pv 5) (aa ai (aa (pv 6) ad)))))
   (ah (aB (i:=11) dN.nd rfl (Or.inl rfl) (am CN.ok (hr.mono (by decide)) rfl CN.nm CN.kp CN.bd .nil ao (aa (pv 5) (aa ai (aa (pv 6) ad)))))
   (aj (bP PassesOwn.never rfl (bC (be (aa dA (aa dA ad)))) (ay (i:=12) dN.nd rfl (Or.inl rfl))
   (ah (aW (bV (bL (am CF.ok (hr.mono (by decide)) rfl CF.nm CF.kp CF.bd .nil ao (aa (pv 2) (aa (pv 10) (aa (pv 11) (aa (pv 10) (aa (pv 12) ad)))))))) (aj (az dA)) aF)
   (aj (aW (bV (bL (am CF.ok (hr.mono (by decide)) rfl CF.nm CF.kp CF.bd .nil ao (aa (pv 2) (aa (pv 8) (aa (pv 11) (aa (pv 11) (aa (pv 12) ad)))))))) (aj (az dA)) aF)))))))))))
   (ah (j6 (i:=13) dN.nd rfl (Or.inl rfl) (cH rfl (cG rfl N.range (aa (pv 6) ad)) rfl rfl (by show ∀p∈_,iH [‹"_law_book"›] p;decide) (by decide) rfl (by show ([‹"_law_turn_here"›, ‹"_law_book"›]:List Str).Nodup;decide) (.cons (i:=2) rfl (.inr (.inl rfl)) (by show (some NameKind.cell)≠some NameKind.local;decide) (.inl rfl) rfl .nil) (λC fp s H=>dE) (λC fp s H=>(bQ (pv 1) MT.cl MT.mt MT.ok (hr.mono (by decide)) MT.bd MT.dv ao (aa (aE bB (pv 0) ai) ad)))))
   (aj (az (da (cS dB (bY (pv 2) MN.cl MN.mt MN.ok (hr.mono (by decide)) MN.bd MN.dv ao) (pv 6) (aN _)) (eJ (cS (jB hr.units) (pv 13) (bH hu (pv 3) bh (λ_ _=>rfl)) (aN _)))))))))))))))),?_⟩
  obtain⟨pL,hL⟩:=LL.tbl
  refine au (aI ⟨_,rfl,sa,ns,_,rfl,hS,by decide,λn=>⟨n,rfl,λkl ks H3 nk g3 ek k1 k8 nd hok=>?_⟩⟩)
  dsimp only [aK]
  refine au (aI ?_)
  refine⟨_,rfl,kl,_,rfl,.inl (SqL.of ek),λhd nh=>?_⟩
  have g4:aq H3 (upd H3 hd (.lst (ks.map V.str))):=aq.new nh
  have eh:upd H3 hd (.lst (ks.map V.str)) hd=some (.lst (ks.map V.str)):=ae
  generalize upd H3 hd (.lst (ks.map V.str))=H4 at g4 eh
  have g04:=g3.trans g4
  refine λx dx nx ndx hne=>?_
  refine⟨x,dx,hd,ks,rfl,ae,(by rw [ag (af eh nx),ag (af eh ndx)];exact eh),k1,k8,nd,(λk hk=>⟨(hok k hk).has,(hok k hk).len,(hok k hk).nm⟩),λa F H5 fF gg bk=>⟨rfl,?_⟩⟩
  have g5:aq H4 H5:=λb o e=>gg b o (by rw [ag (af e nx),ag (af e ndx)];exact e) (af e nx)
  have fF':∀b,F b->H4 b=none:=λb f=>(c5 (c5 (fF b f)).2).2
  have g05:=g04.trans g5
  dsimp only [aK]
  have e5k:=g5 _ _ (g4 _ _ ek)
  refine au (aI ⟨_,rfl,kl,ks,rfl,e5k,λs H8 es g8 nS st=>?_⟩)
  subst es
  have g08:=g05.trans g8
  have P8:=vQ (C:=C) (L:=L) fF' g5 bk (by rw [g4 _ _ ek];intro z;cases z) g8 st nS (g04 _ _ hL)
  have newr:∀b,((F b/\H5 b≠none)\/s.At b)->H b=none:=λb hb=>by
   rcases hb with hb | hb
   ·exact g04.free (fF' b hb.1)
   ·by_cases z:b=s.k
    ·rw [z];exact nk
    ·exact g05.free (nS b hb z)
  have L8:Lm L H8:=bE LL λb o e _ _=>g08 b o e
  have D0:Duo C L (λb=>H b≠none/\b≠L) H 0 (λ_=>⟨x,a,F,s,Bk.new ks⟩) H8:=⟨(λi hi=>nomatch hi),(λi j hi=>nomatch hi),(λi hi=>nomatch hi),λb o ob e=>g08 b o e,λb ob=>ob⟩
  have D8:=D0.more (r:=⟨x,a,λb=>F b/\H5 b≠none,s,Bk.new ks⟩) P8 λb hb=>⟨λz=>z.1 (newr b hb),λi hi=>nomatch hi⟩
  have hR8:(moR (λ_=>(⟨x,a,F,s,Bk.new ks⟩:PR)) 0 ⟨x,a,λb=>F b/\H5 b≠none,s,Bk.new ks⟩ 0)=⟨x,a,λb=>F b/\H5 b≠none,s,Bk.new ks⟩:=rfl
  generalize moR (λ_=>(⟨x,a,F,s,Bk.new ks⟩:PR)) 0 ⟨x,a,λb=>F b/\H5 b≠none,s,Bk.new ks⟩=R8 at D8 hR8
  have hp8:(R8 0).p=x/\(R8 0).s=s/\(R8 0).B.ds=[]/\(R8 0).B.ks=ks:=by rw [hR8];exact⟨rfl,rfl,rfl,rfl⟩
  clear hR8
  dsimp only [aK]
  have hS8:=fw hS hL λb o e _=>g08 b o e
  refine au (aI ⟨by show 4<=sizeLine;decide,λl3 n3=>?_⟩)
  have g9:aq H8 (upd H8 l3 (.lst [.int 40,.int 40,.int 40,.int 400])):=aq.new n3
  have hS9:=fw hS hL λb o e _=>(g08.trans g9) b o e
  refine⟨_,rfl,sa,ns,0,rfl,hS9,by decide,λn=>⟨_,_,rfl,rfl,?_,_,_,rfl,rfl,(by show (0:Int) < 4;decide),?_⟩⟩
  ·exact⟨by decide,by omega⟩
  obtain⟨sp,hsp,esp⟩:=wm (Int.emod_nonneg (n / 4) (show (4:Int)≠0 by decide)) (Int.emod_lt_of_pos (n / 4) (show (0:Int) < 4 by decide))
  refine⟨l3,_,_,V.int sp,rfl,rfl,SqL.of ae,esp,?_⟩
  have s0:0 < sp:=by omega
  have s1:sp<=400:=by omega
  dsimp only [aK]
  generalize upd H8 l3 (.lst [.int 40,.int 40,.int 40,.int 400])=H9 at g9 hS9
  have L9:Lm L H9:=bE L8 λb o e _ _=>g9 b o e
  have P9:=P8.grow g9
  refine uh (σ':=[some (.ref sa),some (.ref s.k),some (.ref x),some (.ref s.d),some (.int sp),none,none,none,none,none,none,none,none,none]) rfl ?_
  refine au (c4 ⟨_,rfl,_,rfl,x,_,_,s,Bk.new ks,.int 0,.non,0,0,rfl,⟨L9,P9.bk,λb f=>(P9.fd b f).2,P9.st,⟨Nat.zero_le _,.inr rfl⟩,⟨Nat.zero_le _,.inl ⟨rfl,rfl⟩⟩,λHX gX=>⟨_,rfl,b9 (bi ?_)⟩⟩⟩)
  dsimp only
  have DX:=zG (D8.grow g9) L9 gX
  have gHX:∀b o,H b=some o->b≠L->HX b=some o:=λb o e n=>gX.same b o n (g9 _ _ (g08 _ _ e))
  have hSX:=fw hS hL gHX
  have LX:=gX.lam
  have bigX:∀b,HX b=none->H b=none:=λb h=>(g08.trans g9).free (Gm.free gX h)
  have inX:∀i,i < 1->∀b,(R8 i).In b->HX b≠none:=λi hi b ib=>(DX.pr i hi).there ib
  clear D8 P8 P9 hS9 gX g9 L8 L9
  refine au ?_
  refine⟨_,rfl,2,rfl,50,rfl,sa,_,rfl,hSX,λu0 nu0=>⟨by show 3<=sizeLine;decide,λu1 nu1=>?_⟩⟩
  have hcl:=xF (xs:=ns.map V.int)
  have hcm:∀z,z∈cutV (ns.map V.int) (some 2) (some 50)->∃c:Int,z=.int c:=λz hz=>qM hz
  generalize cutV (ns.map V.int) (some 2) (some 50)=cs at hcl hcm nu1
  have ga:aq HX (upd HX u0 (.lst cs)):=aq.new nu0
  have gb:aq (upd HX u0 (.lst cs)) (upd (upd HX u0 (.lst cs)) u1 (.lst [.int 1,.int 2,.int 3])):=aq.new nu1
  refine⟨u0,u1,cs,_,rfl,rfl,gb _ _ ae,ae,Nat.le_trans (show cs.length+3<=1000 by omega) (by decide),λu2 nu2=>?_⟩
  have gc:aq (upd (upd HX u0 (.lst cs)) u1 (.lst [.int 1,.int 2,.int 3])) (upd (upd (upd HX u0 (.lst cs)) u1 (.lst [.int 1,.int 2,.int 3])) u2 (.lst (cs++[.int 1,.int 2,.int 3]))):=aq.new nu2
  have eu:upd (upd (upd HX u0 (.lst cs)) u1 (.lst [.int 1,.int 2,.int 3])) u2 (.lst (cs++[.int 1,.int 2,.int 3])) u2=some (.lst (cs++[.int 1,.int 2,.int 3])):=ae
  have gXc:=ga.trans (gb.trans gc)
  have nu2':HX u2=none:=(ga.trans gb).free nu2
  generalize upd (upd (upd HX u0 (.lst cs)) u1 (.lst [.int 1,.int 2,.int 3])) u2 (.lst (cs++[.int 1,.int 2,.int 3]))=Hc at gXc eu
  have hlen:(cs++[V.int 1,V.int 2,V.int 3]).length<=51:=by rw [List.length_append];show cs.length+3<=51;omega
  have hcm2:∀z∈cs++[V.int 1,V.int 2,V.int 3],∃c:Int,z=.int c:=λz hz=>by
   rcases List.mem_append.mp hz with hz | hz
   ·exact hcm z hz
   rcases List.mem_cons.mp hz with hz | hz
   ·exact⟨_,hz⟩
   rcases List.mem_cons.mp hz with hz | hz
   ·exact⟨_,hz⟩
   ·exact⟨_,List.mem_singleton.mp hz⟩
  generalize cs++[V.int 1,V.int 2,V.int 3]=xs at eu hlen hcm2
  have Lc:Lm L Hc:=bE LX λb o e _ _=>gXc b o e
  obtain⟨pLc,hLc⟩:=Lc.tbl
  have Dc:Duo C L (λb=>(H b≠none/\b≠L)\/b=u2) Hc 1 R8 Hc:=by
   refine(DX.grow gXc).re (λi hi b ib ob=>?_) λb ob=>?_
   ·rcases ob with ob | rfl
    ·exact DX.nw i hi b ib ob
    ·exact inX i hi _ ib nu2'
   ·rcases ob with ob | rfl
    ·refine⟨λz=>?_,ob.2⟩
     cases e:H b with
     | none=>exact ob.1 e
     | some o=>rw [gXc _ _ (gHX b o e ob.2)]at z;cases z
    ·exact⟨(by rw [eu];intro z;cases z),aD eu hLc (by intro z;cases z)⟩
  refine⟨u2,rfl,⟨_,SqL.of eu⟩,bO (K:=K) (a:=u2) (xs:=xs) (λi σ H7=>∃(R':Nat->PR) (v5:Option V),σ=[some (.ref sa),some (.ref s.k),some (.ref x),some (.ref s.d),some (.int sp),v5,none,none,none,none,none,none,none,none]/\Lm L H7/\Duo C L (λb=>(H b≠none/\b≠L)\/b=u2) Hc 1 R' H7/\(R' 0).p=x/\(R' 0).s=s/\(R' 0).B.ds.length=i)
   ⟨R8,none,rfl,Lc,Dc,hp8.1,hp8.2.1,by rw [hp8.2.2.1];rfl⟩ (λi σ H7 _ hh=>?_) ?_ ?_⟩
  ·obtain⟨_,_,_,_,D,_⟩:=hh
   exact SqL.of (D.ok u2 _ (.inr rfl) eu)
  ·rintro i y σ H7 hi ⟨R',v5,rfl,L7,D7,hp,hs',hB7⟩
   obtain⟨c,rfl⟩:=hcm2 y (List.mem_of_getElem? hi)
   have hi60:=(List.getElem?_eq_some_iff.mp hi).1
   obtain⟨pL7,hL7⟩:=L7.tbl
   dsimp only [aK]
   refine c4 ?_
   refine⟨_,rfl,_,rfl,_,rfl,_,rfl,(R' 0).p,(R' 0).a,(R' 0).F,(R' 0).s,(R' 0).B,c,sp,(by rw [hp,hs'];rfl),L7,D7.pr 0 (by decide),s0,s1,by omega,λHa F9 B9 L9 P9 hl9 hf9 hd9 f9 g9'=>⟨_,rfl,b9 (bi ?_)⟩⟩
   have D9:=D7.done hL7 (show 0 < 1 by decide) P9 f9 g9'
   have E9:upR R' 0 F9 B9 0=⟨(R' 0).p,(R' 0).a,F9,(R' 0).s,B9⟩:=jd
   refine⟨upR R' 0 F9 B9,_,rfl,L9,D9,?_,?_,?_⟩
   ·rw [E9];exact hp
   ·rw [E9];exact hs'
   ·rw [E9];show B9.ds.length=i+1;omega
  ·rintro σ H7 ⟨R',v5,rfl,L7,D7,hp,hs',hB7⟩
   dsimp only
   have P7:=D7.pr 0 (by decide)
   rw [hp,hs']at P7
   obtain⟨pL7,hL7⟩:=L7.tbl
   generalize (R' 0).B=B at P7 hB7
   generalize (R' 0).F=F7 at P7
   generalize (R' 0).a=a7 at P7
   have hS7:=fw hS hL λb o e nb=>D7.ok b o (.inl ⟨λz=>(by rw [e]at z;cases z),nb⟩) (gXc _ _ (gHX b o e nb))
   have h60:=P7.bk.ok.dsz
   clear D7 hB7 hp hs'
   obtain⟨qs,q2,r2⟩:=id P7.st.he
   have lqs:qs.length=B.ds.length:=Paired.length r2
   refine au (aI ⟨_,rfl,s.d,_,rfl,P7.st.d_e,s.e,_,rfl,.inl (SqL.of q2),?_⟩)
   rw [List.length_map,lqs]
   dsimp only [aK]
   refine au (aI (fT ?_))
   refine⟨_,rfl,by decide,by decide,?_⟩
   refine my (sa:=sa) (xs:=ns.map V.int) (n:=2) (λy=>∃c:Int,y=V.int c) hS7 (by decide) (λi H2 R hi hS2 hR=>?_) λDd ys nD hl hy=>?_
   ·refine⟨_,rfl,sa,ns,_,rfl,hS2,by decide,λm=>⟨_,rfl,_,_,rfl,rfl,m,_,rfl,by omega,by omega,λy _ _=>hR _ ⟨y,rfl⟩⟩⟩
   have ge:aq H7 (upd H7 Dd (.lst ys)):=aq.new nD
   have ee:upd H7 Dd (.lst ys) Dd=some (.lst ys):=ae
   generalize upd H7 Dd (.lst ys)=He at ge ee
   have hSe:=fw hS7 hL7 λb o e _=>ge b o e
   dsimp only [aK]
   refine au ?_
   refine⟨_,rfl,50,rfl,56,rfl,sa,_,rfl,hSe,λu3 nu3=>?_⟩
   have hcm3:∀z,z∈cutV (ns.map V.int) (some 50) (some 56)->∃c:Int,z=.int c:=λz hz=>qM hz
   have hcl3:=fO (ns.map V.int) (some 50) (some 56)
   rw [List.length_map]at hcl3
   generalize cutV (ns.map V.int) (some 50) (some 56)=cs at hcm3 hcl3
   have gf:aq He (upd He u3 (.lst cs)):=aq.new nu3
   refine⟨_,rfl,u3,Dd,cs,ys,rfl,rfl,ae,gf _ _ ee,Nat.le_trans (show cs.length+ys.length<=1000 by omega) (by decide),λu4 nu4=>?_⟩
   have gg2:aq (upd He u3 (.lst cs)) (upd (upd He u3 (.lst cs)) u4 (.lst (cs++ys))):=aq.new nu4
   have e4:upd (upd He u3 (.lst cs)) u4 (.lst (cs++ys)) u4=some (.lst (cs++ys)):=ae
   have g7f:=(ge.trans gf).trans gg2
   generalize upd (upd He u3 (.lst cs)) u4 (.lst (cs++ys))=Hf at g7f e4
   have hcm4:∀z∈cs++ys,∃c:Int,z=.int c:=λz hz=>by
    rcases List.mem_append.mp hz with hz | hz
    ·exact hcm3 z hz
    ·obtain⟨j,hj⟩:=List.getElem?_of_mem hz
     exact hy j z hj
   generalize cs++ys=xs4 at e4 hcm4
   have Pf:=P7.grow g7f
   have Lf:Lm L Hf:=bE L7 λb o e _ _=>g7f b o e
   refine⟨u4,rfl,⟨_,SqL.of e4⟩,bO (K:=K) (a:=u4) (xs:=xs4) (λi σ Hg=>∃(v5 v8 v9 v10 v11 v12:Option V),σ=[some (.ref sa),some (.ref s.k),some (.ref x),some (.ref s.d),some (.int sp),v5,some (.int (B.ds.length:Int)),some (.ref Dd),v8,v9,v10,v11,v12,none]/\Gm L Hf Hg) ⟨_,none,none,none,none,none,rfl,Go.refl Lf⟩ (λi σ Hg _ hh=>?_) ?_ ?_⟩
   ·obtain⟨_,_,_,_,_,_,_,g⟩:=hh
    exact SqL.of (g.lst Lf e4)
   ·rintro i y σ Hg hi ⟨v5',v8,v9,v10,v11,v12,rfl,gg3⟩
    obtain⟨c,rfl⟩:=hcm4 y (List.mem_of_getElem? hi)
    have Pg:=j7 Pf Lf gg3
    walk_at "d"
    refine au (aI ⟨_,rfl,_,rfl,c,10,B.ds.length,rfl,by decide,by decide,λv1 t ht hv1=>?_⟩)
    walk_at "d"
    refine au (aI ⟨_,rfl,_,rfl,c,12,B.ds.length,rfl,by decide,by decide,λv2 u hu' hv2=>?_⟩)
    walk_at "d"
    refine au (c4 ⟨_,rfl,_,rfl,_,rfl,_,rfl,x,a7,F7,s,B,v1,v2,t,u,rfl,⟨gg3.lam,Pg.bk,λb f=>(Pg.fd b f).2,Pg.st,⟨ht,hv1⟩,⟨hu',hv2⟩,λHi gi=>⟨_,rfl,b9 (bi ?_)⟩⟩⟩)
    dsimp only
    have g0i:=gg3.trans gi
    have Pi:=j7 Pf Lf g0i
    refine au (aI ⟨_,rfl,_,rfl,c,14,_,rfl,by decide,by decide,by omega,by omega,λvb db Hj gj shb bb nb=>?_⟩)
    walk_at "d"
    refine au (aI ⟨_,rfl,_,rfl,c,15,_,rfl,by decide,by decide,by omega,by omega,λvw dw Hk gk shw bw nw=>?_⟩)
    walk_at "d"
    refine⟨by show 2<=sizeLine;decide,λlv nlv=>?_⟩
    have gl:aq Hk (upd Hk lv (.lst [.bl false,.bl true])):=aq.new nlv
    have ev:upd Hk lv (.lst [.bl false,.bl true]) lv=some (.lst [.bl false,.bl true]):=ae
    generalize upd Hk lv (.lst [.bl false,.bl true])=Hl at gl ev
    have gjl:=gk.trans gl
    have gil:=gj.trans gjl
    refine⟨lv,rfl,⟨_,SqL.of ev⟩,bO (K:=K) (a:=lv) (xs:=[.bl false,.bl true]) (λi σ Hm=>∃v12:Option V,σ=[some (.ref sa),some (.ref s.k),some (.ref x),some (.ref s.d),some (.int sp),some (.int c),some (.int (B.ds.length:Int)),some (.ref Dd),some v1,some v2,some vb,some vw,v12,none]/\aq Hl Hm) ⟨_,rfl,aq.refl⟩ (λi σ Hm _ hh=>?_) (λi v σ Hm hi hh=>?_) λσ Hm hh=>?_⟩
    ·obtain⟨_,_,g⟩:=hh
     exact SqL.of (g _ _ ev)
    ·obtain⟨v12',rfl,gm⟩:=hh
     obtain⟨cc,rfl⟩:∃cc,v=.bl cc:=by
      rcases List.mem_cons.mp (List.mem_of_getElem? hi) with e | e
      ·exact⟨_,e⟩
      ·exact⟨_,List.mem_singleton.mp e⟩
     walk_at "d"
     have bkm:=bkg Pi.bk (gil.trans gm)
     refine au (c4 ⟨_,rfl,_,rfl,_,rfl,_,rfl,_,rfl,x,a7,F7,B,vb,vw,vb,cc,rfl,⟨db,bkm,λE r=>.one nb (bb.grow (gjl.trans gm)) r,shb.keep (gjl.trans gm),λHn gn=>⟨_,rfl,b9 (bi ?_)⟩⟩⟩)
     dsimp only
     refine c4 ⟨_,rfl,_,rfl,_,rfl,_,rfl,_,rfl,x,a7,F7,B,v1,vw,vw,cc,rfl,⟨dw,bkg bkm gn,λE r=>.two t ⟨ht,hv1⟩ nw (bw.grow ((gl.trans gm).trans gn)) r,shw.keep ((gl.trans gm).trans gn),λHo go=>⟨_,rfl,b9 (bi ?_)⟩⟩⟩
     exact⟨_,rfl,gm.trans (gn.trans go)⟩
    ·obtain⟨v12',rfl,gm⟩:=hh
     exact⟨_,_,_,_,_,_,rfl,j9 g0i (gil.trans gm)⟩
   ·rintro σ Hg ⟨v5',v8,v9,v10,v11,v12,rfl,gg3⟩
    dsimp only
    have Pg:=j7 Pf Lf gg3
    obtain⟨dx,ho⟩:=Pg.bk.ob
    refine au (aI (fT ⟨_,rfl,_,rfl,by omega,by omega,?_⟩))
    rw [show ((B.ds.length:Int)).toNat=B.ds.length from Int.toNat_natCast _]
    refine vM (ds:=B.ds) ‹1› (λi d H2 R hd g2 hR=>?_) λD qs9 H9 nD g9 eD hD=>?_
    ·exact⟨_,rfl,x,dx,_,rfl,g2 _ _ ho,bU a7 ‹0› ‹0› ‹0› ‹0› ‹0›,_,rfl,_,_,rfl,rfl,x,a7,F7,B,i,d,(by rw [Int.zero_add];rfl),bkg Pg.bk g2,hd,λq hq=>hR q hq⟩
    walk_at "d"
    have Ph:=Pg.grow g9
    obtain⟨qs8,q8,r8⟩:=id Ph.st.he
    refine bA (gZ ⟨_,rfl,x,dx,_,rfl,g9 _ _ ho,bU a7 ‹0› ‹0› ‹0› ‹0› ‹0›,x,a7,F7,B,rfl,Ph.bk.toT,_,rfl,rfl,_,rfl,?_⟩)
    rw [decide_eq_true rfl]
    have dok:=vI Ph.bk.ok.dw
    refine bT ⟨_,rfl,_,rfl,s.d,_,rfl,Ph.st.d_e,_,_,.lst eD (iB hD),.lst q8 (iB r8),dok,dok,true,⟨λ_=>rfl,λ_=>rfl⟩,?_⟩
    exact q H9
theorem ar1 {P:List Value->Prop} (h:∀a,P [a]):∀us:List Value,us.length=1->P us:=λus e=>by
 obtain⟨a,rfl⟩:=List.length_eq_one_iff.mp e
 exact h a
theorem ar2 {P:List Value->Prop} (h:∀x1 x2,P [x1,x2]) (us:List Value) (e:us.length=2):P us:=by
 cases us with
 | nil=>cases e
 | cons a t=>exact ar1 (P:=λt=>P (a::t)) (λx1=>h a x1) t (Nat.succ.inj e)
theorem ar3 {P:List Value->Prop} (h:∀x1 x2 x3,P [x1,x2,x3]) (us:List Value) (e:us.length=3):P us:=by
 cases us with
 | nil=>cases e
 | cons a t=>exact ar2 (P:=λt=>P (a::t)) (λx1 x2=>h a x1 x2) t (Nat.succ.inj e)
theorem ar4 {P:List Value->Prop} (h:∀x1 x2 x3 x4,P [x1,x2,x3,x4]) (us:List Value) (e:us.length=4):P us:=by
 cases us with
 | nil=>cases e
 | cons a t=>exact ar3 (P:=λt=>P (a::t)) (λx1 x2 x3=>h a x1 x2 x3) t (Nat.succ.inj e)
theorem ar5 {P:List Value->Prop} (h:∀x1 x2 x3 x4 x5,P [x1,x2,x3,x4,x5]) (us:List Value) (e:us.length=5):P us:=by
 cases us with
 | nil=>cases e
 | cons a t=>exact ar4 (P:=λt=>P (a::t)) (λx1 x2 x3 x4=>h a x1 x2 x3 x4) t (Nat.succ.inj e)
noncomputable abbrev yB:Stmt:=ca (top 33) 0
theorem Ai:FnScope ["self", "turn"] ["self", "turn"] (al yB):=‹2›
theorem z0 {f:Addr}{fd:FuncData} (F:Fun K "__init__" "NoTurn.__init__" yB f fd):FnOk P w K mg base CX0 1 f fd ["self", "turn"] (r9 K "turn"):=by
 refine F.ok (k:=0) Ai (λvs H Q E h=>?_) (λcdv A outer s H vs Q E hr h=>?_)
 ·obtain⟨e,C,U,v,rfl,_⟩:=h
  rfl
 ·obtain⟨e,C,U,v,rfl,he,T,hn,hq⟩:=h
  exact⟨_,aj (wJ (pv 0) (pv 1) rfl),_,rfl,_,rfl,e,C,U,rfl,he,T,hn,hq⟩
theorem all_mk {l:PySem.W.OpenLaw}{w:World}{K:W.Frag}{h:Heap}{mg:Str->Option Value}{fa c L C U f0 f1 f2 f3 f4 f5 f6 f7 f8 f9 f10 f11 f12 f13 f14 f15 f16 f17 f18 f19 f20 f21 f22 f23 f24 f25 f26 f27 f28 f29 f30 f31 f32 f33 f34 f35 f36 f37 f38 f39 f40 f41 f42 f43 f44 f45 f46 f47 f48 f49 f50 c6 g6:Addr}{d1 d2 d3 d4 d5 d6 d7 d8 d9 d10 d11 d12 d13 d14 d15 d16 d17 d18 d19 d20 d21 d22 d23 d24 d25 d26 d27 d28 d29 d30 d31 d32 d33 d34 d35 d36 d37 d38 d39 d40 d41 d42 d43 d44 d45 d46 d47 d48 d49 d50 y6:FuncData} (X:K.In h) (G:h.Ns mainGlobals mg) (hfa:mg "law" = some (.ref fa))
  {od0 an0:Option Addr}{sl0:Array (Option Value)}{oc0 kV0 dc0 pm0 ct0:Value}{t19:Addr}{od19:Value}{oe19:Option Addr}{on19:Nat}{os19:Array (Option Value)}
  (aU:‹(K,U,"UnsayError")›) (aC:‹(K,C,"Book")›)
  (a0:‹(K,f0,"joined")›) (l0:K.lookup f0=some ⟨oc0,od0,.func (PySem.W.fnOf "joined" "joined" (cC cO) (bW cO) (al cO) .none kV0 dc0 pm0 an0 (.ref c) ct0),sl0⟩) (e0:PySem.W.codeIn K (.ref c) "joined" = true) (k0:PySem.W.keepIn K (.ref f0)=true)
  (a1:‹(K,f1,"law")›) (F1:Fun K "law" "law" rC f1 d1)
  (a2:‹(K,f2,"_law_cell")›) (F2:Fun K "_law_cell" "_law_cell" uf f2 d2)
  (a3:‹(K,f3,"_law_keys")›) (F3:Fun K "_law_keys" "_law_keys" u9 f3 d3)
  (a4:‹(K,f4,"_law_draw")›) (F4:Fun K "_law_draw" "_law_draw" uc f4 d4)
  (a5:‹(K,f5,"_law_mix")›) (F5:Fun K "_law_mix" "_law_mix" yD f5 d5)
  (a6:‹(K,f6,"_law_state")›) (F6:Fun K "_law_state" "_law_state" oJ f6 d6)
  (a7:‹(K,f7,"_law_done")›) (F7:Fun K "_law_done" "_law_done" ud f7 d7)
  (a8:‹(K,f8,"_law_standing")›) (F8:Fun K "_law_standing" "_law_standing" oK f8 d8)
  (a9:‹(K,f9,"_law_stretch")›) (F9:Fun K "_law_stretch" "_law_stretch" jp f9 d9)
  (a10:‹(K,f10,"_law_whole")›) (F10:Fun K "_law_whole" "_law_whole" oG f10 d10)
  (a11:‹(K,C,f11,"find")›) (i11:‹[K,f11]›) (F11:Fun K "find" "Book.find" ub f11 d11)
  (a12:‹(K,C,f12,"check_key")›) (i12:‹[K,f12]›) (F12:Fun K "check_key" "Book.check_key" lZ f12 d12)
  (a13:‹(K,f13,"check_stretch")›) (F13:Fun K "check_stretch" "check_stretch" oU f13 d13)
  (a14:‹(K,f14,"is_whole")›) (F14:Fun K "is_whole" "is_whole" fE f14 d14)
  (a15:‹(K,f15,"is_day")›) (F15:Fun K "is_day" "is_day" oQ f15 d15)
  (a16:‹(K,C,f16,"check_room")›) (i16:‹[K,f16]›) (F16:Fun K "check_room" "Book.check_room" jr f16 d16)
  (a17:‹(K,C,f17,"now")›) (i17:‹[K,f17]›) (F17:Fun K "now" "Book.now" yC f17 d17)
  (a18:‹(K,C,f18,"take_deed")›) (i18:‹[K,f18]›) (F18:Fun K "take_deed" "Book.take_deed" tY f18 d18)
  (a19:‹(K,C,f19,"table")›) (i19:‹[K,f19]›) (F19:FunD K "table" "Book.table" lT (.ref t19) f19 d19) (ed19:K.lookup t19=some ⟨od19,oe19,.seq #[Value.none] on19,os19⟩)
  (a20:‹(K,C,f20,"turn_meant")›) (i20:‹[K,f20]›) (F20:Fun K "turn_meant" "Book.turn_meant" lU f20 d20)
  (a21:‹(K,f21,"laid")›) (F21:Fun K "laid" "laid" u8 f21 d21)
  (a22:‹(K,f22,"goes_on_strips")›) (F22:Fun K "goes_on" "goes_on" lV f22 d22)
  (a23:‹(K,f23,"around")›) (F23:Fun K "around" "around" m7 f23 d23)
  (a24:‹(K,C,f24,"withdraw")›) (i24:‹[K,f24]›) (F24:Fun K "withdraw" "Book.withdraw" oF f24 d24)
  (a25:‹(K,C,f25,"check_number")›) (i25:‹[K,f25]›) (F25:Fun K "check_number" "Book.check_number" lY f25 d25)
  (a26:‹(K,C,f26,"table_of_known")›) (i26:‹[K,f26]›) (F26:Fun K "table_of_known" "Book.table_of_known" oO f26 d26)
  (a27:‹(K,f27,"_law_right")›) (F27:Fun K "_law_right" "_law_right" oM f27 d27)
  (a28:‹(K,f28,"_law_boxes")›) (F28:Fun K "_law_boxes" "_law_boxes" m6 f28 d28)
  (a29:‹(K,f29,"_law_painted")›) (F29:Fun K "_law_painted" "_law_painted" jq f29 d29)
  (a30:‹(K,f30,"_law_value")›) (F30:Fun K "_law_value" "_law_value" tX f30 d30)
  (a31:‹(K,f31,"_law_told")›) (F31:Fun K "_law_told" "_law_told" qv f31 d31)
  (a32:‹(K,f32,"unlike")›) (F32:Fun K "unlike" "unlike" iZ f32 d32)
  (a33:‹(K,C,f33,"all_keys")›) (i33:‹[K,f33]›) (F33:Fun K "all_keys" "Book.all_keys" yI f33 d33)
  (a34:‹(K,f34,"side_by_side")›) (F34:Fun K "side_by_side" "side_by_side" tZ f34 d34)
  (a35:‹(K,f35,"filled")›) (F35:Fun K "filled" "filled" lW f35 d35)
  (a36:‹(K,f36,"cut")›) (F36:Fun K "cut" "cut" yH f36 d36)
  (a37:‹(K,f37,"unlike_values")›) (F37:Fun K "unlike_values" "unlike_values" qu f37 d37)
  (a38:‹(K,f38,"value_of")›) (F38:Fun K "value_of" "value_of" oH f38 d38)
  (a39:‹(K,C,f39,"found")›) (i39:‹[K,f39]›) (F39:Fun K "found" "Book.found" oS f39 d39)
  (a40:‹(K,f40,"put_behind")›) (F40:Fun K "put_behind" "put_behind" u6 f40 d40)
  (a41:‹(K,f41,"goes_on_turns")›) (F41:Fun K "goes_on" "goes_on" oR f41 d41)
  (a42:‹(K,f42,"_law_kinds")›) (F42:Fun K "_law_kinds" "_law_kinds" oP f42 d42)
  (a43:‹(K,f43,"_law_turn")›) (F43:Fun K "_law_turn" "_law_turn" oI f43 d43)
  (a44:‹(K,f44,"_law_none")›) (F44:Fun K "_law_none" "_law_none" oN f44 d44)
  (a45:‹(K,f45,"_law_refused")›) (F45:Fun K "_law_refused" "_law_refused" u5 f45 d45)
  (a46:‹(K,C,f46,"deed_at")›) (i46:‹[K,f46]›) (F46:Fun K "deed_at" "Book.deed_at" lX f46 d46)
  (a47:‹(K,C,f47,"__init__")›) (i47:‹[K,f47]›) (F47:Fun K "__init__" "Book.__init__" ua f47 d47)
  (a48:‹(K,f48,"are_keys")›) (F48:Fun K "are_keys" "are_keys" js f48 d48)
  (a49:‹(K,f49,"is_name")›) (F49:Fun K "is_name" "is_name" u7 f49 d49)
  (a50:‹(K,f50,"has_only")›) (F50:Fun K "has_only" "has_only" yF f50 d50)
  (cm6:‹(K,c6,"NoTurn")›) (T6:XCls K c6 U) (ia6:‹(K,c6,g6,"__init__")›) (ii6:‹[K,g6]›) (I6:Fun K "__init__" "NoTurn.__init__" yB g6 y6) (nf6:PySem.W.findIn K (.ref c6) "turn" = some none)
  (TB:BkC K C) (mk:PySem.W.makesIn K C=true) (kc:PySem.W.keepIn K (.ref C)=true)
  {tq1 tq2 tq3 tq4 tq5 tq6:Tok} (q1:PySem.W.nsIn K mainGlobals "LETTERS" = some (some (.str gI tq1))) (q2:PySem.W.nsIn K mainGlobals "MOST_LETTERS" = some (some (.int 8 tq2))) (q3:PySem.W.nsIn K mainGlobals "LAST_DAY" = some (some (.int 399 tq3))) (q4:PySem.W.nsIn K mainGlobals "MOST_KEYS" = some (some (.int 8 tq4))) (q5:PySem.W.nsIn K mainGlobals "MOST_DEEDS" = some (some (.int 60 tq5))) (q6:PySem.W.nsIn K mainGlobals "MOST_VALUE" = some (some (.int 1000000000 tq6)))
  (hU:hIn K U=true) (hT:hIn K c6=true) (z1:PySem.W.nsIn K mainGlobals "len" = some none) (z2:PySem.W.nsIn K mainGlobals "range" = some none) (z3:PySem.W.nsIn K mainGlobals "sorted" = some none) (z4:PySem.W.nsIn K mainGlobals "isinstance" = some none) (z5:PySem.W.nsIn K mainGlobals "int" = some none) (z6:PySem.W.nsIn K mainGlobals "bool" = some none) (z7:PySem.W.nsIn K mainGlobals "str" = some none) (z8:PySem.W.nsIn K mainGlobals "list" = some none) (z9:PySem.W.nsIn K mainGlobals "tuple" = some none) (z10:PySem.W.nsIn K mainGlobals "dict" = some none) (z11:PySem.W.nsIn K mainGlobals "set" = some none) (z12:PySem.W.nsIn K mainGlobals "max" = some none) (z13:PySem.W.nsIn K mainGlobals "min" = some none) (z14:PySem.W.nsIn K mainGlobals "all" = some none) (z15:PySem.W.nsIn K mainGlobals "enumerate" = some none) (z16:PySem.W.nsIn K mainGlobals "repr" = some none) :
  ∃fd:FuncData,(∀(s:Shared) (v:Value),BindsTo s fd ⟨[v],[]⟩ [("_law_script", v)])/\∀base:Heap,K.In base->base.Ns mainGlobals mg->PySem.W.CodeHd base c L->base.BuiltinsAt mg L->FnOk l.prog w K mg base CX0 11 fa fd ["_law_script"] (qg K C L):=by
 have e:=hfa.symm.trans (PySem.W.mg_of X G a1)
 cases e
 have N:Free mg:=⟨PySem.W.mg_none_of X G z1,PySem.W.mg_none_of X G z2,PySem.W.mg_none_of X G z3,PySem.W.mg_none_of X G z4,PySem.W.mg_none_of X G z5,PySem.W.mg_none_of X G z6,PySem.W.mg_none_of X G z7,PySem.W.mg_none_of X G z8,PySem.W.mg_none_of X G z9,PySem.W.mg_none_of X G z10,PySem.W.mg_none_of X G z11,PySem.W.mg_none_of X G z12,PySem.W.mg_none_of X G z13,PySem.W.mg_none_of X G z14,PySem.W.mg_none_of X G z15⟩
 have Z:Con mg:=⟨⟨_,PySem.W.mg_of X G q1⟩,⟨_,PySem.W.mg_of X G q2⟩,⟨_,PySem.W.mg_of X G q3⟩,⟨_,PySem.W.mg_of X G q4⟩,⟨_,PySem.W.mg_of X G q5⟩,⟨_,PySem.W.mg_of X G q6⟩⟩
 have mC:=PySem.W.mg_of X G aC
 have n6:=PySem.W.mg_of X G cm6
 have F0:=fun_mk (st:=cO) l0 e0 k0
 obtain⟨oc,od,kV,doc,pm,an,cdv,ct,osl,rfl,lk,hcd⟩:=id F1.ex
 refine⟨PySem.W.fnOf "law" "law" (cC rC) (bW rC) (al rC) .none kV doc pm an cdv ct,λs v=>.of_eq rfl,λbase hK hN hC hB=>?_⟩
 have ky:∀{x:Str}{k:Nat}{ps:List Str}{sp:Sp}{f:Addr}{fd:FuncData},FnOk l.prog w K mg base CX0 k f fd ps sp->PySem.W.nsIn K mainGlobals x=some (some (.ref f))->PySem.W.keepIn K (.ref f)=true->cj K fd ps []->Cal l.prog w K mg base x k ps sp f fd:=λa b c d=>⟨a,PySem.W.mg_of X G b,c,d⟩
 have kx:∀{x:Str}{k:Nat}{ps:List Str}{sp:Sp}{f:Addr}{fd:FuncData},FnOk l.prog w K mg base (CXR l.prog w) k f fd ps sp->PySem.W.nsIn K mainGlobals x=some (some (.ref f))->PySem.W.keepIn K (.ref f)=true->cj K fd ps []->CalX l.prog w K mg base x k ps sp f fd:=λa b c d=>⟨a,PySem.W.mg_of X G b,c,d⟩
 have km:∀{m:Str}{k:Nat}{ps:List Str}{ds:List Value}{dvs:List V}{sp:Sp}{f:Addr}{fd:FuncData},FnOk l.prog w K mg base CX0 k f fd ps sp->PySem.W.findIn K (.ref C) m=some (some (.ref f))->‹[K,f]›->PySem.W.keepIn K (.ref f)=true->cj K fd ps ds->aJ dvs ds->MC l.prog w K mg base C m k ps ds dvs sp f fd:=λa b c d e g=>⟨TB.cl,⟨b,c,d⟩,a,e,g⟩
 have kn:∀{m:Str}{k:Nat}{ps:List Str}{ds:List Value}{dvs:List V}{sp:Sp}{f:Addr}{fd:FuncData},FnOk l.prog w K mg base (CXR l.prog w) k f fd ps sp->PySem.W.findIn K (.ref C) m=some (some (.ref f))->‹[K,f]›->PySem.W.keepIn K (.ref f)=true->cj K fd ps ds->aJ dvs ds->MCX l.prog w K mg base C m k ps ds dvs sp f fd:=λa b c d e g=>⟨TB.cl,⟨b,c,d⟩,a,e,g⟩
 have R6:Rf1 l.prog w K mg base "NoTurn" c6 U "turn" g6 _:=⟨z0 I6,n6,ia6,ii6,I6.binds λ_ _ _ _ _ _=>ar2 λ_ _=>rfl,T6,nf6⟩
 have K1:=ky (xl F2 N) a2 F2.kp (F2.binds λ_ _ _ _ _ _=>ar2 λ_ _=>rfl)
 have K2:=ky (ze F5 ) a5 F5.kp (F5.binds λ_ _ _ _ _ _=>ar2 λ_ _=>rfl)
 have K3:=ky (xh F4 K2) a4 F4.kp (F4.binds λ_ _ _ _ _ _=>ar3 λ_ _ _=>rfl)
 have K4:=ky (xc F3 N K3 K2) a3 F3.kp (F3.binds λ_ _ _ _ _ _=>ar1 λ_=>rfl)
 have K5:=ky (uO F6 N) a6 F6.kp (F6.binds λ_ _ _ _ _ _=>ar1 λ_=>rfl)
 have K6:=ky (uP F8 N) a8 F8.kp (F8.binds λ_ _ _ _ _ _=>ar1 λ_=>rfl)
 have K7:=ky (p8 F9 N K3) a9 F9.kp (F9.binds λ_ _ _ _ _ _=>ar3 λ_ _ _=>rfl)
 have K8:=ky (uJ F10 N) a10 F10.kp (F10.binds λ_ _ _ _ _ _=>ar1 λ_=>rfl)
 have K9:=km (dvs:=[]) (kT F12 TB) a12 i12 F12.kp (F12.binds λ_ _ _ _ _ _=>ar2 λ_ _=>rfl) .nil
 have K10:=ky (jD F14 N) a14 F14.kp (F14.binds λ_ _ _ _ _ _=>ar3 λ_ _ _=>rfl)
 have K11:=ky (uU F15 Z K10) a15 F15.kp (F15.binds λ_ _ _ _ _ _=>ar1 λ_=>rfl)
 have K12:=ky (uX F13 Z K10 K11) a13 F13.kp (F13.binds λ_ _ _ _ _ _=>ar2 λ_ _=>rfl)
 have K13:=km (dvs:=[]) (zd F17 N TB) a17 i17 F17.kp (F17.binds λ_ _ _ _ _ _=>ar1 λ_=>rfl) .nil
 have K14:=km (dvs:=[]) (pb F16 Z TB K13) a16 i16 F16.kp (F16.binds λ_ _ _ _ _ _=>ar1 λ_=>rfl) .nil
 have K15:=km (dvs:=[]) (wY F18 N TB) a18 i18 F18.kp (F18.binds λ_ _ _ _ _ _=>ar4 λ_ _ _ _=>rfl) .nil
 have K16:=km (dvs:=[]) (nN F20 TB K13 K10) a20 i20 F20.kp (F20.binds λ_ _ _ _ _ _=>ar2 λ_ _=>rfl) .nil
 have K17:=km (dvs:=[V.non]) (jC F19 N TB K9 K16) a19 i19 F19.kp (F19.binds (us0:=[]) (ps:=["self", "key", "turn"]) (ds:=[Value.none]) ed19 rfl λ_ _ _ _ _ _ us hl=>by
   have hl':us.length=2:=by simpa using hl
   clear hl
   revert us
   exact ar2 λ_ _=>⟨_,rfl,rfl⟩) (.cons rfl .nil)
 have C0:Cal l.prog w K mg base "joined" 3 ["rows"] (eN L) f0 _:=⟨rR l0 e0 hC hB N.sorted (rS F22 ) (PySem.W.mg_of X G a22) F22.kp (F22.binds λ_ _ _ _ _ _=>ar3 λ_ _ _=>rfl),PySem.W.mg_of X G a0,k0,F0.binds λ_ _ _ _ _ _=>ar1 λ_=>rfl⟩
 have K19:=ky (sp:=(jm L)) (rY F23 N.min N.max) a23 F23.kp (F23.binds λ_ _ _ _ _ _=>ar3 λ_ _ _=>rfl)
 have K20:=ky (sp:=(lP L)) (xb F21 C0 K19) a21 F21.kp (F21.binds λ_ _ _ _ _ _=>ar4 λ_ _ _ _=>rfl)
 have K21:=km (dvs:=[]) (xg F11 N Z TB K9 K12 K10 K14 K13 K15 K17 K20) a11 i11 F11.kp (F11.binds λ_ _ _ _ _ _=>ar5 λ_ _ _ _ _=>rfl) .nil
 have K22:=km (dvs:=[]) (rW F25 N TB K10) a25 i25 F25.kp (F25.binds λ_ _ _ _ _ _=>ar2 λ_ _=>rfl) .nil
 have K23:=km (dvs:=[]) (uS F26 N TB K20) a26 i26 F26.kp (F26.binds λ_ _ _ _ _ _=>ar2 λ_ _=>rfl) .nil
 have K24:=km (dvs:=[]) (uI F24 TB K22 K14 K13 K15 K23) a24 i24 F24.kp (F24.binds λ_ _ _ _ _ _=>ar2 λ_ _=>rfl) .nil
 have K25:=ky (xi F7 N K3 K6 K7 K8 K21 K24) a7 F7.kp (F7.binds λ_ _ _ _ _ _=>ar4 λ_ _ _ _=>rfl)
 have K26:=ky (p9 F29 N) a29 F29.kp (F29.binds λ_ _ _ _ _ _=>ar3 λ_ _ _=>rfl)
 have K27:=ky (wV F30 ) a30 F30.kp (F30.binds λ_ _ _ _ _ _=>ar2 λ_ _=>rfl)
 have K28:=ky (rX F28 N K26 K27) a28 F28.kp (F28.binds λ_ _ _ _ _ _=>ar4 λ_ _ _ _=>rfl)
 have K29:=km (dvs:=[]) (zi F33 N TB) a33 i33 F33.kp (F33.binds λ_ _ _ _ _ _=>ar1 λ_=>rfl) .nil
 have K30:=km (dvs:=[]) (jC F19 N TB K9 K16) a19 i19 F19.kp (F19.binds (us0:=[]) (ps:=["self", "key", "turn"]) (ds:=[]) ed19 rfl λ_ _ _ _ _ _ us hl=>by
   have hl':us.length=3:=by simpa using hl
   clear hl
   revert us
   exact ar3 λ_ _ _=>⟨_,rfl,rfl⟩) .nil
 have K31:=ky (sp:=(tJ L)) (zh F36 N C0) a36 F36.kp (F36.binds λ_ _ _ _ _ _=>ar3 λ_ _ _=>rfl)
 have K32:=ky (sp:=(jk L)) (rT F35 C0 K31) a35 F35.kp (F35.binds λ_ _ _ _ _ _=>ar3 λ_ _ _=>rfl)
 have K33:=ky (sp:=(lM L)) (wZ F34 K32) a34 F34.kp (F34.binds λ_ _ _ _ _ _=>ar4 λ_ _ _ _=>rfl)
 have K34:=ky (rO F32 Z K29 K30 K33) a32 F32.kp (F32.binds λ_ _ _ _ _ _=>ar3 λ_ _ _=>rfl)
 have K35:=km (dvs:=[]) (uW F39 TB K22) a39 i39 F39.kp (F39.binds λ_ _ _ _ _ _=>ar2 λ_ _=>rfl) .nil
 have K36:=ky (uK F38 K35) a38 F38.kp (F38.binds λ_ _ _ _ _ _=>ar2 λ_ _=>rfl)
 have K37:=ky (uV F41 ) a41 F41.kp (F41.binds λ_ _ _ _ _ _=>ar2 λ_ _=>rfl)
 have K38:=ky (x8 F40 K37) a40 F40.kp (F40.binds λ_ _ _ _ _ _=>ar2 λ_ _=>rfl)
 have K39:=ky (wW F37 K34 K36 K38) a37 F37.kp (F37.binds λ_ _ _ _ _ _=>ar3 λ_ _ _=>rfl)
 have K40:=ky (wX F31 K34 K39) a31 F31.kp (F31.binds λ_ _ _ _ _ _=>ar4 λ_ _ _ _=>rfl)
 have K41:=ky (uT F42 N K8) a42 F42.kp (F42.binds λ_ _ _ _ _ _=>ar1 λ_=>rfl)
 have K42:=ky (uQ F27 N K28 K40 K41) a27 F27.kp (F27.binds λ_ _ _ _ _ _=>ar4 λ_ _ _ _=>rfl)
 have K43:=ky (uM F43 K3) a43 F43.kp (F43.binds λ_ _ _ _ _ _=>ar3 λ_ _ _=>rfl)
 have K44:=ky (uR F44 K3) a44 F44.kp (F44.binds λ_ _ _ _ _ _=>ar3 λ_ _ _=>rfl)
 have K45:=km (dvs:=[]) (FnOk.mono (j:=1) (k:=3) (kT F12 TB) (by decide)) a12 i12 F12.kp (F12.binds λ_ _ _ _ _ _=>ar2 λ_ _=>rfl) .nil
 have K46:=ky (rN F14 N) a14 F14.kp (F14.binds λ_ _ _ _ _ _=>ar3 λ_ _ _=>rfl)
 have K47:=kn (dvs:=[]) (show FnOk l.prog w K mg base (CXR l.prog w) 3 _ _ _ (mX C c6) from FnOk.both (FnOk.mono (j:=2) (nN F20 TB K13 K10) (by decide)) (rQ F20 TB K13 K46 R6)) a20 i20 F20.kp (F20.binds λ_ _ _ _ _ _=>ar2 λ_ _=>rfl) .nil
 have K48:=kn (dvs:=[]) (show FnOk l.prog w K mg base (CXR l.prog w) 4 _ _ _ (mV C c6) from FnOk.both (FnOk.mono (j:=3) (jC F19 N TB K9 K16) (by decide)) (rP F19 N TB K45 K47)) a19 i19 F19.kp (F19.binds (us0:=[]) (ps:=["self", "key", "turn"]) (ds:=[]) ed19 rfl λ_ _ _ _ _ _ us hl=>by
   have hl':us.length=3:=by simpa using hl
   clear hl
   revert us
   exact ar3 λ_ _ _=>⟨_,rfl,rfl⟩) .nil
 have K49:=kx (p7 F32 Z K29 K48 K33) a32 F32.kp (F32.binds λ_ _ _ _ _ _=>ar3 λ_ _ _=>rfl)
 have K50:=kx (uL F37 K49 K36 K38) a37 F37.kp (F37.binds λ_ _ _ _ _ _=>ar3 λ_ _ _=>rfl)
 have K51:=kx (uN F31 K49 K50) a31 F31.kp (F31.binds λ_ _ _ _ _ _=>ar4 λ_ _ _ _=>rfl)
 have K52:=ky (x6 F45 N K51 R6 hT (PySem.W.mg_of X G aU) hU (PySem.W.mg_none_of X G z16)) a45 F45.kp (F45.binds λ_ _ _ _ _ _=>ar5 λ_ _ _ _ _=>rfl)
 have K53:=km (dvs:=[]) (rV F46 TB K13 K10) a46 i46 F46.kp (F46.binds λ_ _ _ _ _ _=>ar2 λ_ _=>rfl) .nil
 have K54:=ky (zg F50 N) a50 F50.kp (F50.binds λ_ _ _ _ _ _=>ar3 λ_ _ _=>rfl)
 have K55:=ky (x9 F49 N Z K54) a49 F49.kp (F49.binds λ_ _ _ _ _ _=>ar1 λ_=>rfl)
 have K56:=ky (pc F48 N Z K55) a48 F48.kp (F48.binds λ_ _ _ _ _ _=>ar1 λ_=>rfl)
 exact zf F1 N K1 K4 K5 K25 K42 K2 K43 K44 K52 K13 K53 ⟨mk,a47,i47,kc⟩ (xf F47 N TB K56) (F47.binds λ_ _ _ _ _ _=>ar2 λ_ _=>rfl) mC
theorem walk {l:PySem.W.OpenLaw}{q:Program}{loose:List Str}{XP:(Str->Option Value)->Heap->Prop}{YP:World->Heap->Prop}{d dj:DefRec}{K:Params->PySem.W.Frag}{c L C:Addr} (hn:l.most=some 63) (hdf:d.params.defaults=[])
  (hY:∀(w:World) (h:Heap),YP w h->(K w.params).In h)
  (hrj:(PyProof.Rows.recsOf q).find? (λe=>e.name == ("joined" : Str))=some dj) (htab:∀(w:World) (h:Heap),(K w.params).In h->PySem.W.tabIn (K w.params) "joined" = some (c,L)) (hnt:∀(w:World) (h:Heap),(K w.params).In h->PySem.W.noTabs (K w.params)=true)
  (F:∀(w:World) (mg:Str->Option Value) (fa:Addr) (h:Heap),(K w.params).In h->h.Ns mainGlobals mg->mg d.name=some (.ref fa)->
   ∃fd:FuncData,(∀(s:Shared) (u:Value),BindsTo s fd ⟨[u],[]⟩ [("_law_script", u)])/\
    ∀base:Heap,(K w.params).In base->base.Ns mainGlobals mg->PySem.W.CodeHd base c L->base.BuiltinsAt mg L->FnOk l.prog w (K w.params) mg base CX0 11 fa fd ["_law_script"] (qg (K w.params) C L)) :
  PySem.W.WalkO q loose XP YP l.row.toRowW d [] (λf vs=>PySem.call f vs):=
 sS (n:=63) (k:=11) (x:="_law_script") (xj:="joined") (sp:=λw=>qg (K w.params) C L) hn (by decide) hdf ⟨rfl,by decide,by decide,rfl⟩ hY hrj htab hnt F λw H a ns hl hO hS=>⟨a,ns,rfl,.inl hO.1,hS,hl,λ_=>rfl⟩
end Mine
open PySem PySem.W PyProof.Rows
namespace PySem.W.Fast
theorem tw16957516635649912018:True:=⟨⟩
theorem tw9988749755516799977:True:=⟨⟩
theorem tw15872463287159977605:True:=⟨⟩
theorem tw11492613394853943524:True:=⟨⟩
theorem tw5839616660077292813:True:=⟨⟩
theorem tw15396398936266036594:True:=⟨⟩
theorem tw3471468366791854932:True:=⟨⟩
theorem tw2090686875862072504:True:=⟨⟩
theorem tw17340611489416913294:True:=⟨⟩
theorem tw5315200200690978522:True:=⟨⟩
theorem tw14697157465840108292:True:=⟨⟩
theorem tw5453792189377798929:True:=⟨⟩
theorem tw9868760041259901080:True:=⟨⟩
theorem tw9549689286102476304:True:=⟨⟩
theorem tw16796256235308586077:True:=⟨⟩
theorem tw8256902097129618294:True:=⟨⟩
theorem tw12726693042307661344:True:=⟨⟩
theorem tw6887347973527218476:True:=⟨⟩
theorem tw8763518024144612191:True:=⟨⟩
theorem tw3998754501005459755:True:=⟨⟩
theorem tw2153822476836103163:True:=⟨⟩
theorem tw2858982366672630523:True:=⟨⟩
theorem tw10352177624403867982:True:=⟨⟩
theorem tw6887344869806258626:True:=⟨⟩
theorem tw15285282284719754451:True:=⟨⟩
theorem tw4350470260481679556:True:=⟨⟩
theorem tw713390278203396007:True:=⟨⟩
theorem tw5355139119705716868:True:=⟨⟩
theorem tw852169591551486030:True:=⟨⟩
theorem tw15832272053811753754:True:=⟨⟩
theorem tw3089936720306202138:True:=⟨⟩
theorem tw5195161438409032280:True:=⟨⟩
theorem tw11907059710360095245:True:=⟨⟩
theorem tw16118081829203025242:True:=⟨⟩
theorem tw13169008503128006248:True:=⟨⟩
theorem tw10611897420103329138:True:=⟨⟩
theorem tw4178889580126830070:True:=⟨⟩
theorem tw14444162712340674363:True:=⟨⟩
theorem tw14079536972967043804:True:=⟨⟩
theorem tw9059150439305107418:True:=⟨⟩
theorem tw11604209814508836618:True:=⟨⟩
theorem tw7918649682137679716:True:=⟨⟩
theorem tw1318880759655517641:True:=⟨⟩
theorem tw12344140295981748652:True:=⟨⟩
theorem tw1084157869533879002:True:=⟨⟩
theorem tw13025506735055375338:True:=⟨⟩
theorem tw16161681070611417229:True:=⟨⟩
theorem tw7158170561667938928:True:=⟨⟩
theorem tw6010647026531678159:True:=⟨⟩
theorem tw14521346639280962071:True:=⟨⟩
theorem tw104307492169190073:True:=⟨⟩
theorem tw1461568662766911640:True:=⟨⟩
theorem tw10969056914689721101:True:=⟨⟩
theorem tw9719926647993634651:True:=⟨⟩
theorem tw7130310964400932096:True:=⟨⟩
theorem tw16386433090099644667:True:=⟨⟩
theorem tw2936369762637276934:True:=⟨⟩
theorem tw18261405701254998261:True:=⟨⟩
theorem tw13769102735724562133:True:=⟨⟩
theorem tw11627924675174829966:True:=⟨⟩
theorem tw15027345864060878759:True:=⟨⟩
theorem tw3687876245627364669:True:=⟨⟩
theorem tw2366775466168326894:True:=⟨⟩
theorem tw16926097683974455530:True:=⟨⟩
theorem tw15153880384354951675:True:=⟨⟩
theorem tw4850410496415883737:True:=⟨⟩
theorem tw10244196268873218348:True:=⟨⟩
theorem tw5093917132316161257:True:=⟨⟩
theorem tw13380191855937754943:True:=⟨⟩
theorem tw6426151694000982634:True:=⟨⟩
theorem tw6984037070272012893:True:=⟨⟩
theorem tw12993888360144440603:True:=⟨⟩
theorem tw12449282081389520634:True:=⟨⟩
theorem tw13831724344686423895:True:=⟨⟩
theorem tw65177061261773832:True:=⟨⟩
theorem tw6962670002915035297:True:=⟨⟩
theorem tw13015760481515633863:True:=⟨⟩
theorem tw13306156663104181506:True:=⟨⟩
theorem tw10128157724952539236:True:=⟨⟩
theorem tw17348107021320316901:True:=⟨⟩
theorem tw161659095201849336:True:=⟨⟩
theorem tw16666775684853396389:True:=⟨⟩
theorem tw15858537393566271991:True:=⟨⟩
theorem tw8346372981245134441:True:=⟨⟩
theorem tw4923526824900886696:True:=⟨⟩
theorem tw591168036054218356:True:=⟨⟩
theorem tw5819747118821950501:True:=⟨⟩
theorem tw10411416940612699722:True:=⟨⟩
theorem tw17295052440694056415:True:=⟨⟩
theorem tw6964818892277432147:True:=⟨⟩
theorem tw9122450159018636205:True:=⟨⟩
theorem tw17750598551883214968:True:=⟨⟩
theorem tw6278044065742059979:True:=⟨⟩
theorem tw7346038986594778639:True:=⟨⟩
theorem tw6382400665663032150:True:=⟨⟩
theorem tw2224926507032846595:True:=⟨⟩
theorem tw18004380539292023606:True:=⟨⟩
theorem tw8364755302912509003:True:=⟨⟩
theorem tw16925159682115130816:True:=⟨⟩
theorem tw2674810694221694028:True:=⟨⟩
theorem tw16958252532846395897:True:=⟨⟩
theorem tw8600854067648833264:True:=⟨⟩
theorem tw11430115011746989713:True:=⟨⟩
theorem tw461731031390967295:True:=⟨⟩
theorem tw10540746026561586274:True:=⟨⟩
theorem tw8821547236284434979:True:=⟨⟩
theorem tw10030870294719383792:True:=⟨⟩
theorem tw18131788083502220502:True:=⟨⟩
theorem tw13492882344747860039:True:=⟨⟩
theorem tw9169502183189726764:True:=⟨⟩
theorem tw13646000343322407765:True:=⟨⟩
theorem tw5326775666680470398:True:=⟨⟩
theorem tw1630262059454021121:True:=⟨⟩
theorem tw316856518787865875:True:=⟨⟩
theorem tw792696521303717488:True:=⟨⟩
theorem tw2097244618987931570:True:=⟨⟩
theorem tw13345695486212342777:True:=⟨⟩
theorem tw3102749478974403591:True:=⟨⟩
theorem tw4169629245483260400:True:=⟨⟩
theorem tw14614802805451290041:True:=⟨⟩
theorem tw1873015225097857637:True:=⟨⟩
theorem tw6815019732731988390:True:=⟨⟩
theorem tw17695375492112672653:True:=⟨⟩
theorem tw7242613870168820495:True:=⟨⟩
theorem tw8153035472623340705:True:=⟨⟩
theorem tw8529872086884098386:True:=⟨⟩
theorem tw15964129538066745032:True:=⟨⟩
theorem tw2869300396823801725:True:=⟨⟩
theorem tw7744167030691239336:True:=⟨⟩
theorem tw3849535817652014088:True:=⟨⟩
theorem tw4241513697690091807:True:=⟨⟩
theorem tw7520142001887673502:True:=⟨⟩
theorem tw12755175630255778595:True:=⟨⟩
theorem tw16308823027132457204:True:=⟨⟩
theorem tw14335356872949741287:True:=⟨⟩
theorem tw14113433168562476717:True:=⟨⟩
theorem tw3710646369530716200:True:=⟨⟩
theorem tw3352666263778262487:True:=⟨⟩
theorem tw10105715580320573634:True:=⟨⟩
theorem tw422009826758373592:True:=⟨⟩
theorem tw12065204847307190440:True:=⟨⟩
theorem tw7335730935429307951:True:=⟨⟩
theorem tw4759692484084346267:True:=⟨⟩
theorem tw16533052027528624765:True:=⟨⟩
theorem tw7212709002913822955:True:=⟨⟩
theorem tw17623180789893216076:True:=⟨⟩
theorem tw12055548980538561910:True:=⟨⟩
theorem tw17021118328253077066:True:=⟨⟩
theorem tw13800976743229589089:True:=⟨⟩
theorem tw9846319556445080088:True:=⟨⟩
theorem tw7824226057717070028:True:=⟨⟩
theorem tw16226173840395148508:True:=⟨⟩
theorem tw17843897565563736075:True:=⟨⟩
theorem tw17688227048421431527:True:=⟨⟩
theorem tw4545350054016530193:True:=⟨⟩
theorem tw13120767847293867165:True:=⟨⟩
theorem tw8920191683108701601:True:=⟨⟩
theorem tw1120305185271965897:True:=⟨⟩
theorem tw9561620665300405366:True:=⟨⟩
theorem tw14559471350810392592:True:=⟨⟩
theorem tw303927806022349542:True:=⟨⟩
theorem tw12300287022170709473:True:=⟨⟩
theorem tw1248835347456871451:True:=⟨⟩
theorem tw8216106138505774366:True:=⟨⟩
theorem tw11309618099417576351:True:=⟨⟩
theorem tw1098673202503279105:True:=⟨⟩
theorem tw1452144812313855243:True:=⟨⟩
theorem tw8217239801970152679:True:=⟨⟩
theorem tw15246646388691403945:True:=⟨⟩
theorem tw6820822884919131703:True:=⟨⟩
theorem tw3717367676261662200:True:=⟨⟩
theorem tw3730282430944770957:True:=⟨⟩
theorem tw13980473828982485416:True:=⟨⟩
theorem tw435983923794738171:True:=⟨⟩
theorem tw9634601497751869014:True:=⟨⟩
theorem tw8155623333629331590:True:=⟨⟩
theorem tw1147503964419283770:True:=⟨⟩
theorem tw5041666005772241362:True:=⟨⟩
theorem tw17829172070387736942:True:=⟨⟩
theorem tw8566686428353005511:True:=⟨⟩
theorem tw17508138067134672833:True:=⟨⟩
theorem tw4416506383824377919:True:=⟨⟩
theorem tw7187693722271409311:True:=⟨⟩
theorem tw12431894827554076732:True:=⟨⟩
theorem tw5102803077727038460:True:=⟨⟩
theorem tw16693322086194320406:True:=⟨⟩
theorem tw16158591337972226804:True:=⟨⟩
theorem tw8612795943018672986:True:=⟨⟩
theorem tw14626009024585057978:True:=⟨⟩
theorem tw16710283088710754683:True:=⟨⟩
theorem tw9755711890612162644:True:=⟨⟩
theorem tw11744501475802353229:True:=⟨⟩
theorem tw9631248455239645738:True:=⟨⟩
theorem tw16243066106114643582:True:=⟨⟩
theorem tw2970400373683221104:True:=⟨⟩
theorem tw17022283427781516792:True:=⟨⟩
theorem tw1809037667066095197:True:=⟨⟩
theorem tw4598450352036756417:True:=⟨⟩
theorem tw2976853016586289045:True:=⟨⟩
theorem tw4601865896041767754:True:=⟨⟩
theorem tw17110283188998004545:True:=⟨⟩
theorem tw8279449664598303677:True:=⟨⟩
theorem tw11341703900686616344:True:=⟨⟩
theorem tw15131700813256047798:True:=⟨⟩
theorem tw12177837755591182905:True:=⟨⟩
theorem tw4012070642842245133:True:=⟨⟩
theorem tw10171693546490350139:True:=⟨⟩
theorem tw9742053249314517079:True:=⟨⟩
theorem tw6262799093489262684:True:=⟨⟩
theorem tw6464030162380540875:True:=⟨⟩
theorem tw2381274120825463904:True:=⟨⟩
theorem tw13009690511053746981:True:=⟨⟩
theorem tw13821061616585718988:True:=⟨⟩
theorem tw13342923759276788038:True:=⟨⟩
theorem tw7254448270811949102:True:=⟨⟩
theorem tw3749095186689800916:True:=⟨⟩
theorem tw891387118243399501:True:=⟨⟩
theorem tw10908243743423839494:True:=⟨⟩
theorem tw1487241843707185932:True:=⟨⟩
theorem tw16345134785177503816:True:=⟨⟩
theorem tw9240595275333897221:True:=⟨⟩
theorem tw1935125904993426266:True:=⟨⟩
theorem tw311999542219038898:True:=⟨⟩
theorem tw15532268561442016808:True:=⟨⟩
theorem tw7528494520225894560:True:=⟨⟩
theorem tw1321758790622860118:True:=⟨⟩
theorem tw10260261612409375663:True:=⟨⟩
theorem tw1844493096771723934:True:=⟨⟩
theorem tw14334681669609116001:True:=⟨⟩
theorem tw924613670997684124:True:=⟨⟩
theorem tw14547563465010785851:True:=⟨⟩
theorem tw4643762057546894944:True:=⟨⟩
theorem tw15642512004958520843:True:=⟨⟩
theorem tw3617439308033463576:True:=⟨⟩
theorem tw17681738503567945579:True:=⟨⟩
theorem tw14503713974921451184:True:=⟨⟩
theorem tw12725916988519839405:True:=⟨⟩
theorem tw10329511067246073244:True:=⟨⟩
theorem tw13219880870814533985:True:=⟨⟩
theorem tw2112536289972084351:True:=⟨⟩
theorem tw15488627184893606463:True:=⟨⟩
theorem tw5210277276831162714:True:=⟨⟩
theorem tw7904231997698383268:True:=⟨⟩
theorem tw7391808498437380285:True:=⟨⟩
theorem tw2829599845823113745:True:=⟨⟩
theorem tw57430454839487555:True:=⟨⟩
theorem tw5471890341302852287:True:=⟨⟩
theorem tw2207764047537770202:True:=⟨⟩
theorem tw9428361409065210822:True:=⟨⟩
theorem tw7254422743396247267:True:=⟨⟩
theorem tw2448934857769423961:True:=⟨⟩
theorem tw3190879018066917210:True:=⟨⟩
theorem tw3552215249969476868:True:=⟨⟩
theorem tw13319365862443803615:True:=⟨⟩
theorem tw7295104943557396207:True:=⟨⟩
theorem tw5886735601268363475:True:=⟨⟩
theorem tw13527004894475693103:True:=⟨⟩
theorem tw3340485690188175485:True:=⟨⟩
theorem tw3711646917000210686:True:=⟨⟩
theorem tw9440927112839792715:True:=⟨⟩
theorem tw11937107300040267171:True:=⟨⟩
theorem tw12022885950842021337:True:=⟨⟩
theorem tw12869846444564660798:True:=⟨⟩
theorem tw1044420169227173545:True:=⟨⟩
theorem tw15822647954929326759:True:=⟨⟩
theorem tw10415009732017526305:True:=⟨⟩
theorem tw6962331809160942865:True:=⟨⟩
theorem tw8232512568131381528:True:=⟨⟩
theorem tw16416552371433299645:True:=⟨⟩
theorem tw1683139534240279814:True:=⟨⟩
theorem tw17016545453418834230:True:=⟨⟩
theorem tw12974487326176829706:True:=⟨⟩
theorem tw11116462312164691217:True:=⟨⟩
theorem tw15530141164930046632:True:=⟨⟩
theorem tw17559804164067979844:True:=⟨⟩
end PySem.W.Fast
set_option maxRecDepth 100000 in
set_option maxHeartbeats 0 in
theorem PySem.Challenge.cw_unsaybook_k21_turns_unlike_holds : PySem.Challenge.rw_unsaybook_k21_turns_unlike.Holds := by
 w_on;o_law;k_head;(case hw=>w_witness2)
 k_fill
 refine' Mine.walk (l:=PySem.Challenge.rw_unsaybook_k21_turns_unlike) (L:=16) rfl rfl (λw h Y=>PySem.W.km_in_of Y) ?hrj ?htab ?hnt ?F
 case hrj=>exact rfl
 case F=>
  intro w mg fa h KX G hmg
  refine' Mine.all_mk KX G hmg ?aU ?aC ?a0 ?l0 ?e0 ?k0 ?a1 (L2.fun_mk ?l1 ?e1 ?k1) ?a2 (L2.fun_mk ?l2 ?e2 ?k2) ?a3 (L2.fun_mk ?l3 ?e3 ?k3) ?a4 (L2.fun_mk ?l4 ?e4 ?k4) ?a5 (L2.fun_mk ?l5 ?e5 ?k5) ?a6 (L2.fun_mk ?l6 ?e6 ?k6) ?a7 (L2.fun_mk ?l7 ?e7 ?k7) ?a8 (L2.fun_mk ?l8 ?e8 ?k8) ?a9 (L2.fun_mk ?l9 ?e9 ?k9) ?a10 (L2.fun_mk ?l10 ?e10 ?k10) ?a11 ?i11 (L2.fun_mk ?l11 ?e11 ?k11) ?a12 ?i12 (L2.fun_mk ?l12 ?e12 ?k12) ?a13 (L2.fun_mk ?l13 ?e13 ?k13) ?a14 (L2.fun_mk ?l14 ?e14 ?k14) ?a15 (L2.fun_mk ?l15 ?e15 ?k15) ?a16 ?i16 (L2.fun_mk ?l16 ?e16 ?k16) ?a17 ?i17 (L2.fun_mk ?l17 ?e17 ?k17) ?a18 ?i18 (L2.fun_mk ?l18 ?e18 ?k18) ?a19 ?i19 (L2.FunD.mk' ?l19 ?e19 ?k19) ?ed19 ?a20 ?i20 (L2.fun_mk ?l20 ?e20 ?k20) ?a21 (L2.fun_mk ?l21 ?e21 ?k21) ?a22 (L2.fun_mk ?l22 ?e22 ?k22) ?a23 (L2.fun_mk ?l23 ?e23 ?k23) ?a24 ?i24 (L2.fun_mk ?l24 ?e24 ?k24) ?a25 ?i25 (L2.fun_mk ?l25 ?e25 ?k25) ?a26 ?i26 (L2.fun_mk ?l26 ?e26 ?k26) ?a27 (L2.fun_mk ?l27 ?e27 ?k27) ?a28 (L2.fun_mk ?l28 ?e28 ?k28) ?a29 (L2.fun_mk ?l29 ?e29 ?k29) ?a30 (L2.fun_mk ?l30 ?e30 ?k30) ?a31 (L2.fun_mk ?l31 ?e31 ?k31) ?a32 (L2.fun_mk ?l32 ?e32 ?k32) ?a33 ?i33 (L2.fun_mk ?l33 ?e33 ?k33) ?a34 (L2.fun_mk ?l34 ?e34 ?k34) ?a35 (L2.fun_mk ?l35 ?e35 ?k35) ?a36 (L2.fun_mk ?l36 ?e36 ?k36) ?a37 (L2.fun_mk ?l37 ?e37 ?k37) ?a38 (L2.fun_mk ?l38 ?e38 ?k38) ?a39 ?i39 (L2.fun_mk ?l39 ?e39 ?k39) ?a40 (L2.fun_mk ?l40 ?e40 ?k40) ?a41 (L2.fun_mk ?l41 ?e41 ?k41) ?a42 (L2.fun_mk ?l42 ?e42 ?k42) ?a43 (L2.fun_mk ?l43 ?e43 ?k43) ?a44 (L2.fun_mk ?l44 ?e44 ?k44) ?a45 (L2.fun_mk ?l45 ?e45 ?k45) ?a46 ?i46 (L2.fun_mk ?l46 ?e46 ?k46) ?a47 ?i47 (L2.fun_mk ?l47 ?e47 ?k47) ?a48 (L2.fun_mk ?l48 ?e48 ?k48) ?a49 (L2.fun_mk ?l49 ?e49 ?k49) ?a50 (L2.fun_mk ?l50 ?e50 ?k50) ?cm6 ⟨?cx6,?xa6,?xb6,?xc6,?xd6,?xe6,?xf6,?xg6⟩ ?ia6 ?ii6 (L2.fun_mk ?il6 ?id6 ?ik6) ?nf6 ⟨⟨?pg,?hd,?po,?sa⟩,?nn1,?nn2,?nn3,?nn4,?nn5⟩ ?mk ?kc ?q1 ?q2 ?q3 ?q4 ?q5 ?q6 ?hU ?hT ?z1 ?z2 ?z3 ?z4 ?z5 ?z6 ?z7 ?z8 ?z9 ?z10 ?z11 ?z12 ?z13 ?z14 ?z15 ?z16
  case aU | aC | a0 | l0 | e0 | k0 | a1 | l1 | e1 | k1 | a2 | l2 | e2 | k2 | a3 | l3 | e3 | k3 | a4 | l4 | e4 | k4 | a5 | l5 | e5 | k5 | a6 | l6 | e6 | k6 | a7 | l7 | e7 | k7 | a8 | l8 | e8 | k8 | a9 | l9 | e9 | k9 | a10 | l10 | e10 | k10 | a11 | i11 | l11 | e11 | k11 | a12 | i12 | l12 | e12 | k12 | a13 | l13 | e13 | k13 | a14 | l14 | e14 | k14 | a15 | l15 | e15 | k15 | a16 | i16 | l16 | e16 | k16 | a17 | i17 | l17 | e17 | k17 | a18 | i18 | l18 | e18 | k18 | a19 | i19 | l19 | e19 | k19 | ed19 | a20 | i20 | l20 | e20 | k20 | a21 | l21 | e21 | k21 | a22 | l22 | e22 | k22 | a23 | l23 | e23 | k23 | a24 | i24 | l24 | e24 | k24 | a25 | i25 | l25 | e25 | k25 | a26 | i26 | l26 | e26 | k26 | a27 | l27 | e27 | k27 | a28 | l28 | e28 | k28 | a29 | l29 | e29 | k29 | a30 | l30 | e30 | k30 | a31 | l31 | e31 | k31 | a32 | l32 | e32 | k32 | a33 | i33 | l33 | e33 | k33 | a34 | l34 | e34 | k34 | a35 | l35 | e35 | k35 | a36 | l36 | e36 | k36 | a37 | l37 | e37 | k37 | a38 | l38 | e38 | k38 | a39 | i39 | l39 | e39 | k39 | a40 | l40 | e40 | k40 | a41 | l41 | e41 | k41 | a42 | l42 | e42 | k42 | a43 | l43 | e43 | k43 | a44 | l44 | e44 | k44 | a45 | l45 | e45 | k45 | a46 | i46 | l46 | e46 | k46 | a47 | i47 | l47 | e47 | k47 | a48 | l48 | e48 | k48 | a49 | l49 | e49 | k49 | a50 | l50 | e50 | k50 | cm6 | xa6 | xb6 | xc6 | xd6 | xe6 | xf6 | xg6 | ia6 | ii6 | il6 | id6 | ik6 | nf6 | pg | hd | po | sa | nn1 | nn2 | nn3 | nn4 | nn5 | mk | kc | q1 | q2 | q3 | q4 | q5 | q6 | z1 | z2 | z3 | z4 | z5 | z6 | z7 | z8 | z9 | z10 | z11 | z12 | z13 | z14 | z15 | z16=>first | k_is | (unfold L2.NoAttr;k_is)
  case cx6 | hU | hT=>first | k_is | kernel_rfl
 case htab=>intro w h KX;kernel_rfl
 case hnt=>intro w h KX;kernel_rfl
