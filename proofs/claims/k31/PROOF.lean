import PyProof.Rows.All
import Wide.All
import OpenK.AllK
import Wide.FinOn
import Lean
import PyProof.EqAt
import PyProof.EqKinds
import PyProof.TupleCall
import KE.IntTextText
import PyProof.SeqI3
import PySem.Challenge.RW_unsaybook_k31_questions_as_texts
set_option Elab.async false
set_option linter.all false
set_option maxRecDepth 100000
namespace L2
open PySem PySem.Spec PyProof.Rows
abbrev Key := Sum Int Str
def keyIs : Key → Value → Bool
  | .inl k, v => Value.isInt k v
  | .inr x, v => Value.isStrOf x v
def keyH (w : World) : Key → Int
  | .inl k => hashInt k
  | .inr x => hashStr w x
theorem keyIs_shape : ∀ {k : Key} {v : Value}, keyIs k v = true → (∃ i t, k = Sum.inl i ∧ v = Value.int i t) ∨ (∃ x t, k = Sum.inr x ∧ v = Value.str x t)
  | .inl i, v, h => by
    obtain ⟨t, e⟩ := Value.isInt_shape (k := i) (v := v) h
    exact .inl ⟨i, t, rfl, e⟩
  | .inr x, v, h => by
    obtain ⟨t, e⟩ := Value.isStrOf_shape (x := x) (v := v) h
    exact .inr ⟨x, t, rfl, e⟩
theorem key_ll (a b : Int) : decide ((Sum.inl a : Key) = Sum.inl b) = (a == b) := by
  by_cases e : a = b
  · subst e; simp
  · have h : ¬ (Sum.inl a : Key) = Sum.inl b := fun q => e (Sum.inl.inj q)
    rw [decide_eq_false h]
    exact (beq_eq_false_iff_ne.mpr e).symm
theorem key_rr (a b : Str) : decide ((Sum.inr a : Key) = Sum.inr b) = decide (a = b) := by
  by_cases e : a = b
  · subst e; simp
  · have h : ¬ (Sum.inr a : Key) = Sum.inr b := fun q => e (Sum.inr.inj q)
    rw [decide_eq_false h, decide_eq_false e]
theorem key_lr (a : Int) (b : Str) : decide ((Sum.inl a : Key) = Sum.inr b) = false := decide_eq_false (fun q => nomatch q)
theorem key_rl (a : Str) (b : Int) : decide ((Sum.inr a : Key) = Sum.inl b) = false := decide_eq_false (fun q => nomatch q)
def mixKind (prog : Program) (w : World) : PySem.KeyKind prog w Key where
  is := keyIs
  hash := keyH w
  inj := fun v a b ha hb => by
    rcases keyIs_shape ha with ⟨i, t, rfl, rfl⟩ | ⟨x, t, rfl, rfl⟩
    · rcases keyIs_shape hb with ⟨j, u, rfl, e⟩ | ⟨y, u, rfl, e⟩
      · injection e with e1 _; rw [e1]
      · exact nomatch e
    · rcases keyIs_shape hb with ⟨j, u, rfl, e⟩ | ⟨y, u, rfl, e⟩
      · exact nomatch e
      · injection e with e1 _; rw [e1]
  byValue := fun k v h => by
    rcases keyIs_shape h with ⟨i, t, rfl, rfl⟩ | ⟨x, t, rfl, rfl⟩ <;> rfl
  pyHash := fun hv h => by
    rcases keyIs_shape hv with ⟨i, t, rfl, rfl⟩ | ⟨x, t, rfl, rfl⟩
    · exact wpAny_pyHash_int h
    · exact wpAny_pyHash_str h
  eqBool := fun hu hv h => by
    rcases keyIs_shape hu with ⟨i, t, rfl, rfl⟩ | ⟨x, t, rfl, rfl⟩
    · rcases keyIs_shape hv with ⟨j, u, rfl, rfl⟩ | ⟨y, u, rfl, rfl⟩
      · rw [key_ll] at h; exact wpAny_eqBool_int h
      · rw [key_lr] at h; exact SeqAt.EqAt.int_str i t y u _ _ _ _ h
    · rcases keyIs_shape hv with ⟨j, u, rfl, rfl⟩ | ⟨y, u, rfl, rfl⟩
      · rw [key_rl] at h; exact SeqAt.EqAt.str_int x t j u _ _ _ _ h
      · rw [key_rr] at h; exact wpAny_eqBool_str h
  «strs» := fun k x t v h => by
    rcases keyIs_shape h with ⟨i, u, rfl, e⟩ | ⟨y, u, rfl, e⟩
    · exact nomatch e
    · injection e with e1 _
      subst e1
      cases v <;> rfl
end L2
namespace L2
open PySem PySem.Spec PyProof.Rows
inductive V where
  | non | bl (b : Bool) | int (i : Int) | str (x : Str) | byt (b : Array UInt8) | flt (b : UInt64) | ref (a : Addr) | ty (n : String)
  deriving DecidableEq
def RelV : V → Value → Prop
  | .non, u => u = Value.none
  | .bl b, u => u = Value.bool b
  | .int i, u => ∃ t, u = Value.int i t
  | .str x, u => ∃ t, u = Value.str x t
  | .byt b, u => ∃ t, u = Value.bytes b t
  | .flt b, u => ∃ t, u = Value.float b t
  | .ref a, u => u = Value.ref a
  | .ty n, u => u = Value.type n
abbrev Vals : List V → List Value → Prop := Paired RelV
theorem Vals.length {xs : List V} {us : List Value} (r : Vals xs us) : xs.length = us.length := Paired.length r
theorem Vals.get : ∀ {xs : List V} {us : List Value} {i : Nat} {x : V}, Vals xs us → xs[i]? = some x → ∃ u, us[i]? = some u ∧ RelV x u
  | _, _, _, _, .nil, e => by simp at e
  | _, _, 0, _, .cons r _, e => by simp at e; subst e; exact ⟨_, rfl, r⟩
  | _, _, i + 1, x, .cons _ t, e => by
    obtain ⟨u, h1, h2⟩ := Vals.get (i := i) (x := x) t (by simpa using e)
    exact ⟨u, by simpa using h1, h2⟩
theorem Vals.set {x : V} {u : Value} (r : RelV x u) : ∀ {xs : List V} {us : List Value} (i : Nat), Vals xs us → Vals (xs.set i x) (us.set i u)
  | _, _, _, .nil => .nil
  | _, _, 0, .cons _ t => .cons r t
  | _, _, i + 1, .cons q t => .cons q (Vals.set r i t)
theorem Vals.append : ∀ {xs ys : List V} {us ws : List Value}, Vals xs us → Vals ys ws → Vals (xs ++ ys) (us ++ ws)
  | _, _, _, _, .nil, s => s
  | _, _, _, _, .cons r t, s => .cons r (Vals.append t s)
theorem Vals.take : ∀ {xs : List V} {us : List Value} (n : Nat), Vals xs us → Vals (xs.take n) (us.take n)
  | _, _, 0, _ => .nil
  | _, _, _ + 1, .nil => .nil
  | _, _, n + 1, .cons r t => .cons r (Vals.take n t)
theorem Vals.drop : ∀ {xs : List V} {us : List Value} (n : Nat), Vals xs us → Vals (xs.drop n) (us.drop n)
  | _, _, 0, r => r
  | _, _, _ + 1, .nil => .nil
  | _, _, n + 1, .cons _ t => Vals.drop n t
def RelO : Option V → Option Value → Prop
  | some v, some u => RelV v u
  | none, none => True
  | _, _ => False
def KV {κ : Type} : List (κ × V) → List (κ × Value) → Prop := Paired fun (p : κ × V) (q : κ × Value) => p.1 = q.1 ∧ RelV p.2 q.2
def kV : Key → V
  | .inl i => .int i
  | .inr x => .str x
inductive HO where
  /-- a list -/
  | lst (xs : List V)
  /-- a tuple (never changes) -/
  | tup (xs : List V)
  /-- a dict whose keys are ints and texts; one whose keys are tuples of ints and texts (the empty one is both) -/
  | dK (kvs : List (Key × V)) | dT (kvs : List (List Key × V))
  /-- a set of ints: its members, its size -/
  | set (S : Int → Bool) (n : Nat)
  /-- an instance of the class at C, its dict at dx, its attributes -/
  | ins (C dx : Addr) (fs : List (Str × V))
  /-- the dict of the instance at x -/
  | own (x : Addr)
  /-- the dict of an exception -/
  | xd (fs : List (Str × V))
  /-- a bound method, f of x -/
  | met (f x : Addr)
  /-- a range object lo, lo + 1, .. below hi -/
  | rng (lo hi : Int)
  /-- a thing that is known to the object (the script; a dict while a loop walks it): read, never written while it is so -/
  | frz (o : Obj) (u : HO)
  /-- a code object's table -/
  | tbl (ps : Array Value)
  /-- any other thing, by what is true of its one object (a def of one's own: SetO a S n := HO.ext fun h => ..) -/
  | ext (φ : Heap → Prop)
abbrev Hp := Addr → Option HO
def upd (H : Hp) (a : Addr) (o : HO) : Hp := fun b => if b = a then some o else H b
theorem upd_same {H : Hp} {a : Addr} {o : HO} : upd H a o a = some o := by unfold upd; rw [if_pos rfl]
theorem upd_ne {H : Hp} {a b : Addr} {o : HO} (h : b ≠ a) : upd H a o b = H b := by unfold upd; rw [if_neg h]
theorem upd_upd {H : Hp} {a : Addr} {o u : HO} : upd (upd H a o) a u = upd H a u := by
  funext b; unfold upd; split <;> rfl
theorem ne_of {H : Hp} {a b : Addr} {o u : HO} (h : H a = some o) (h' : H b = some u) (d : o ≠ u) : a ≠ b := by
  intro e; subst e; rw [h] at h'; exact d (Option.some.inj h')
theorem ne_of_none {H : Hp} {a b : Addr} {o : HO} (h : H a = some o) (h' : H b = none) : a ≠ b := by
  intro e; subst e; rw [h] at h'; cases h'
section
variable (P : Program) (w : World)
def ObjOk (H : Hp) (h : Heap) (a : Addr) : HO → Prop
  | .lst xs => xs.length ≤ sizeLine ∧ ∃ (its : List Value) (n : Nat), Vals xs its ∧ h.get? a = some { cls := .type "list", data := .seq its.toArray n }
  | .tup xs => xs.length ≤ sizeLine ∧ ∃ its : List Value, Vals xs its ∧ IsTup h a its.toArray
  | .dK kvs => kvs.length ≤ sizeLine ∧ (a == sysModules) = false ∧ ∃ vs, KV kvs vs ∧ h.DictOf (mixKind P w) a vs
  | .dT kvs => kvs.length ≤ sizeLine ∧ (a == sysModules) = false ∧ ∃ xs : List (List Key × Addr × Value),
      Paired (fun (p : List Key × V) (q : List Key × Addr × Value) => p.1 = q.1 ∧ H q.2.1 = some (.tup (p.1.map kV)) ∧ RelV p.2 q.2.2) kvs xs ∧
      ∃ o es ep, h.get? a = some o ∧ o.ExactDict ∧ o.data = .dict es ep ∧ es.toList = xs.map (entryOfKey (tupleKind (mixKind P w))) ∧ (xs.map (·.1)).Nodup
  | .set S n => h.SetOf (intKind P w) a S n
  | .ins C dx fs => H dx = some (.own a) ∧ fs.length ≤ 1000 ∧ dx ≠ a ∧ h.get? a = some (PySem.W.instObj C dx) ∧
      ∃ mA, h.Ns1 dx mA ∧ (∀ f, RelO (fs.lookup f) (mA f)) ∧ PySem.Within mA (fs.map (·.1))
  | .own _ => ∃ o, h.get? a = some o
  | .xd fs => ∃ mA, h.Ns1 a mA ∧ ∀ f, RelO (fs.lookup f) (mA f)
  | .rng lo hi => ∃ t u v, h.get? a = some { cls := .type "range", data := .fields #[.int lo t, .int hi u, .int 1 v] }
  | .frz o u => h.get? a = some o ∧ ObjOk H h a u
  | .tbl ps => h.get? a = some { cls := .none, data := .fields ps }
  | .met f x => h.get? a = some (PySem.W.methodObj (.ref f) (.ref x))
  | .ext φ => φ h ∧ (∃ o, h.get? a = some o) ∧ ∀ h1 h2 : Heap, φ h1 → (∀ o, h1.get? a = some o → h2.get? a = some o) → φ h2
def HOk (H : Hp) (h : Heap) : Prop := ∀ a o, H a = some o → ObjOk P w H h a o
end
section
variable {P : Program} {w : World} {H H' : Hp} {h h' : Heap} {a : Addr} {o : HO}
theorem ObjOk.lt (x : ObjOk P w H h a o) : a < h.objs.size := by
  cases o with
  | lst xs => obtain ⟨_, _, _, _, e⟩ := x; exact Heap.lt_size e
  | tup xs => obtain ⟨_, _, _, p⟩ := x; exact p.lt
  | dK kvs => obtain ⟨_, _, _, _, o, _, _, e, _⟩ := x; exact Heap.lt_size e
  | dT kvs => obtain ⟨_, _, _, _, o, _, _, e, _⟩ := x; exact Heap.lt_size e
  | set S n => obtain ⟨o, _, _, _, e, _⟩ := x; exact Heap.lt_size e
  | ins C dx fs => obtain ⟨_, _, _, e, _⟩ := x; exact Heap.lt_size e
  | own y => obtain ⟨_, e⟩ := x; exact Heap.lt_size e
  | xd fs => obtain ⟨_, ⟨_, _, _, e, _⟩, _⟩ := x; exact Heap.lt_size e
  | rng lo hi => obtain ⟨_, _, _, e⟩ := x; exact Heap.lt_size e
  | frz ob u => obtain ⟨e, _⟩ := x; exact Heap.lt_size e
  | tbl ps => exact Heap.lt_size (show h.get? a = some _ from x)
  | met f y => exact Heap.lt_size (show h.get? a = some _ from x)
  | ext φ => obtain ⟨_, ⟨_, e⟩, _⟩ := x; exact Heap.lt_size e
theorem Paired.mapP {α β : Type} {F G : α → β → Prop} : ∀ {l₁ : List α} {l₂ : List β}, Paired F l₁ l₂ → (∀ a b, F a b → G a b) → Paired G l₁ l₂
  | _, _, .nil, _ => .nil
  | _, _, .cons r t, f => .cons (f _ _ r) (Paired.mapP t f)
theorem ObjOk.stay (x : ObjOk P w H h a o) (k : ∀ b u, (b = a ∨ H b = some (.own a)) → h.get? b = some u → h'.get? b = some u)
    (ho : ∀ b, H b = some (.own a) → H' b = some (.own a)) (ht : ∀ b xs, H b = some (.tup xs) → H' b = some (.tup xs)) : ObjOk P w H' h' a o := by
  induction o with
  | lst xs => obtain ⟨z, its, n, r, e⟩ := x; exact ⟨z, its, n, r, k _ _ (.inl rfl) e⟩
  | tup xs => obtain ⟨z, its, r, ob, e, c⟩ := x; exact ⟨z, its, r, ob, k _ _ (.inl rfl) e, c⟩
  | dK kvs => obtain ⟨z, y, vs, r, ob, es, ep, e, c⟩ := x; exact ⟨z, y, vs, r, ob, es, ep, k _ _ (.inl rfl) e, c⟩
  | dT kvs =>
    obtain ⟨z, y, xs, r, ob, es, ep, e, c⟩ := x
    exact ⟨z, y, xs, Paired.mapP r fun p q z => ⟨z.1, ht _ _ z.2.1, z.2.2⟩, ob, es, ep, k _ _ (.inl rfl) e, c⟩
  | set S n => obtain ⟨ob, es, ep, t, e, c⟩ := x; exact ⟨ob, es, ep, t, k _ _ (.inl rfl) e, c⟩
  | ins C dx fs =>
    obtain ⟨d, z, ne, e, mA, ⟨od, es, ep, e2, c⟩, r⟩ := x
    exact ⟨ho _ d, z, ne, k _ _ (.inl rfl) e, mA, ⟨od, es, ep, k _ _ (.inr d) e2, c⟩, r⟩
  | own y => obtain ⟨ob, e⟩ := x; exact ⟨ob, k _ _ (.inl rfl) e⟩
  | xd fs => obtain ⟨mA, ⟨od, es, ep, e, c⟩, r⟩ := x; exact ⟨mA, ⟨od, es, ep, k _ _ (.inl rfl) e, c⟩, r⟩
  | rng lo hi => obtain ⟨t, u, v, e⟩ := x; exact ⟨t, u, v, k _ _ (.inl rfl) e⟩
  | frz ob u ih => obtain ⟨e, q⟩ := x; exact ⟨k _ _ (.inl rfl) e, ih q⟩
  | tbl ps =>
    have e : h.get? a = some { cls := .none, data := .fields ps } := x
    show h'.get? a = some { cls := .none, data := .fields ps }
    exact k a _ (.inl rfl) e
  | met f y =>
    have e : h.get? a = some (PySem.W.methodObj (.ref f) (.ref y)) := x
    show h'.get? a = some (PySem.W.methodObj (.ref f) (.ref y))
    exact k a _ (.inl rfl) e
  | ext φ => obtain ⟨p, ⟨o, e⟩, st⟩ := x; exact ⟨st _ _ p fun o q => k _ _ (.inl rfl) q, ⟨o, k _ _ (.inl rfl) e⟩, st⟩
theorem HOk.lt (x : HOk P w H h) (e : H a = some o) : a < h.objs.size := (x a o e).lt
theorem HOk.fresh (x : HOk P w H h) (e : h.objs.size ≤ a) : H a = none := by
  cases q : H a with
  | none => rfl
  | some u => exact absurd (Nat.lt_of_lt_of_le (x.lt q) e) (Nat.lt_irrefl _)
theorem HOk.kept (x : HOk P w H h) (k : ∀ b u, h.get? b = some u → h'.get? b = some u) : HOk P w H h' := fun a o e =>
  (x a o e).stay (fun b u _ q => k b u q) (fun _ q => q) fun _ _ q => q
theorem HOk.laid (x : HOk P w H h) (k : ∀ b u, h.get? b = some u → h'.get? b = some u) (hp : h.objs.size ≤ a) (new : ObjOk P w (upd H a o) h' a o) : HOk P w (upd H a o) h' := fun b u e => by
  have hn := x.fresh hp
  by_cases hb : b = a
  · subst hb; rw [upd_same] at e; cases e; exact new
  · rw [upd_ne hb] at e
    exact (x b u e).stay (fun c v _ q => k c v q) (fun c q => by rw [upd_ne (ne_of_none q hn)]; exact q) fun c xs q => by rw [upd_ne (ne_of_none q hn)]; exact q
end
def Rd (H : Hp) (a : Addr) (u : HO) : Prop := H a = some u ∨ ∃ o, H a = some (.frz o u)
theorem Rd.ok {P : Program} {w : World} {H : Hp} {h : Heap} {a : Addr} {u : HO} (r : Rd H a u) (x : HOk P w H h) : ObjOk P w H h a u := by
  rcases r with r | ⟨o, r⟩
  · exact x a u r
  · obtain ⟨_, q⟩ := x a _ r
    exact q
def Mut : Option HO → Prop
  | some (.lst _) => True
  | some (.dK _) => True
  | some (.dT _) => True
  | some (.set _ _) => True
  | some (.ins _ _ _) => True
  | some (.ext _) => True
  | _ => False
section
variable {P : Program} {w : World} {H : Hp} {h h' : Heap} {x e : Addr} {o' : HO}
theorem HOk.write (ok : HOk P w H h) (mu : Mut (H x)) (he : e = x ∨ H e = some (.own x)) (k : ∀ b u, b ≠ e → h.get? b = some u → h'.get? b = some u) (heo : ∃ u, h'.get? e = some u)
    (new : ObjOk P w (upd H x o') h' x o') : HOk P w (upd H x o') h' := fun b u q => by
  have nown : ∀ c y, H c = some (.own y) → c ≠ x := fun c y r z => by subst z; rw [r] at mu; exact mu
  have ntup : ∀ c xs, H c = some (.tup xs) → c ≠ x := fun c xs r z => by subst z; rw [r] at mu; exact mu
  by_cases hb : b = x
  · subst hb; rw [upd_same] at q; cases q; exact new
  · rw [upd_ne hb] at q
    by_cases hbe : b = e
    · have q' : H b = some (.own x) := by
        rcases he with z | z
        · exact absurd (hbe.trans z) hb
        · rw [hbe]; exact z
      rw [q] at q'; cases q'
      obtain ⟨v, hv⟩ := heo
      exact ⟨v, by rw [hbe]; exact hv⟩
    · refine (ok b u q).stay (fun c v hc r => k c v ?_ r) (fun c r => by rw [upd_ne (nown c b r)]; exact r) fun c xs r => by rw [upd_ne (ntup c xs r)]; exact r
      rcases hc with rfl | hc
      · exact hbe
      · rintro rfl
        rcases he with z | z
        · exact nown c b hc z
        · rw [hc] at z; cases z; exact hb rfl
end
structure Un (fs ex : List Addr) (H H' : Hp) (h h' : Heap) : Prop where
  keep : ∀ b o, h.get? b = some o → H b = none → b ∉ fs → b ∉ ex → h'.get? b = some o
  slot : ∀ b o, h.get? b = some o → H b = none → b ∈ fs → b ∉ ex → ∃ sl, h'.get? b = some { o with slots := sl }
  free : ∀ b o, h.get? b = some o → H b = none → b ∉ ex → H' b = none
  there : ∀ b o, h.get? b = some o → b ∉ ex → ∃ o', h'.get? b = some o'
  tups : ∀ b xs, H b = some (.tup xs) → H' b = some (.tup xs)
  frzs : ∀ b o u, H b = some (.frz o u) → H' b = some (.frz o u)
  tbls : ∀ b ps, H b = some (.tbl ps) → ∃ more, H' b = some (.tbl (ps ++ more))
section
variable {fs fs' ex ex' : List Addr} {H H1 H2 : Hp} {h h1 h2 h' : Heap} {a x e : Addr} {o : HO}
theorem Un.any (u : Un fs ex H H1 h h1) {b : Addr} {ob : Obj} (q : h.get? b = some ob) (n : H b = none) (hx : b ∉ ex) : ∃ sl, h1.get? b = some { ob with slots := sl } := by
  by_cases hb : b ∈ fs
  · exact u.slot b ob q n hb hx
  · exact ⟨ob.slots, u.keep b ob q n hb hx⟩
theorem Un.kept (k : ∀ b u, h.get? b = some u → h'.get? b = some u) : Un fs ex H H h h' :=
  ⟨fun b ob q _ _ _ => k b ob q, fun b ob q _ _ _ => ⟨ob.slots, k b ob q⟩, fun _ _ _ n _ => n, fun b ob q _ => ⟨ob, k b ob q⟩, fun _ _ q => q, fun _ _ _ q => q, fun _ ps q => ⟨#[], by rw [q]; simp⟩⟩
theorem Un.refl : Un fs ex H H h h := Un.kept fun _ _ q => q
theorem Un.laid (k : ∀ b u, h.get? b = some u → h'.get? b = some u) (hp : h.objs.size ≤ a) (hn : H a = none) : Un fs ex H (upd H a o) h h' where
  keep := fun b u q _ _ _ => k b u q
  slot := fun b u q _ _ _ => ⟨u.slots, k b u q⟩
  free := fun b u q n _ => by rw [upd_ne (Nat.ne_of_lt (Nat.lt_of_lt_of_le (Heap.lt_size q) hp))]; exact n
  there := fun b u q _ => ⟨u, k b u q⟩
  tups := fun b xs q => by rw [upd_ne (ne_of_none q hn)]; exact q
  frzs := fun b u xs q => by rw [upd_ne (ne_of_none q hn)]; exact q
  tbls := fun b ps q => ⟨#[], by rw [upd_ne (ne_of_none q hn), q]; simp⟩
theorem Un.write (mu : Mut (H x)) (he : e = x ∨ H e = some (.own x)) (k : ∀ b u, b ≠ e → h.get? b = some u → h'.get? b = some u) (heo : ∃ u, h'.get? e = some u) : Un fs ex H (upd H x o) h h' := by
  have hx : ∀ b, H b = none → b ≠ x := fun b n z => by subst z; rw [n] at mu; exact mu
  have hb : ∀ b, H b = none → b ≠ e := fun b n z => by
    subst z
    rcases he with r | r
    · exact hx b n r
    · rw [n] at r; cases r
  have hm : ∀ b u, H b = some u → ¬ Mut (some u) → b ≠ x := fun b u q nm z => by subst z; rw [q] at mu; exact nm mu
  refine ⟨fun b u q n _ _ => k b u (hb b n) q, fun b u q n _ _ => ⟨u.slots, k b u (hb b n) q⟩, fun b u q n _ => by rw [upd_ne (hx b n)]; exact n, fun b u q _ => ?_,
    fun b xs q => by rw [upd_ne (hm b _ q fun z => z)]; exact q, fun b u xs q => by rw [upd_ne (hm b _ q fun z => z)]; exact q, fun b ps q => ⟨#[], by rw [upd_ne (hm b _ q fun z => z), q]; simp⟩⟩
  by_cases hbe : b = e
  · subst hbe; exact heo
  · exact ⟨u, k b u hbe q⟩
end
def trk (h : Heap) (H : Hp) : List Addr := (List.range h.objs.size).filter fun a => (H a).isSome
def hidT (h : Heap) (H : Hp) : Heap := PySem.W.hideAll h (trk h H)
theorem hidT_size (h : Heap) (H : Hp) : (hidT h H).objs.size = h.objs.size := PySem.W.hideAll_size _ _
theorem hidT_get {h : Heap} {H : Hp} {b : Addr} {o : Obj} (e : h.get? b = some o) (n : H b = none) : (hidT h H).get? b = some o :=
  PySem.W.hideAll_get _ e fun hm => by
    have q : (H b).isSome = true := (List.mem_filter.mp hm).2
    rw [n] at q; simp at q
theorem of_hidT {h : Heap} {H : Hp} {b : Addr} {o : Obj} (e : (hidT h H).get? b = some o) : h.get? b = some o ∧ H b = none := by
  have e' : h.get? b = some o := PySem.W.of_hideAll (trk h H) e
  refine ⟨e', ?_⟩
  cases q : H b with
  | none => rfl
  | some x =>
    have hm : b ∈ trk h H := List.mem_filter.mpr ⟨List.mem_range.mpr (Heap.lt_size e'), by simp [q]⟩
    have z : (hidT h H).get? b = none := PySem.W.hideAll_none (trk h H) hm
    rw [z] at e; cases e
end L2
namespace L2
open PySem PySem.Spec PyProof.Rows
structure Mod (K : PySem.W.Frag) (mg : Str → Option Value) (base : Heap) : Prop where
  kin : K.In base
  glob : base.Ns mainGlobals mg
  blt : ∃ mb, base.Ns builtinsNs mb ∧ ∀ x : Str, x ≠ "__name__" → mb x = bootBuiltins x
  nolimit : base.NoLimit
structure Cx where
  prog : Program
  w : World
  K : PySem.W.Frag
  mg : Str → Option Value
  base : Heap
  A : Around
  N : List Str
  s₀ : Shared
  H₀ : Hp
  env : Env
  outer : List Env
  stack : List Env
  ex : List Addr
  fn : Str → Bool
  calm : Bool
  pn : List (Addr × Obj)
  xe : Value → Shared → Prop
def frs (l : List Env) : List Addr := l.filterMap (·.frame)
abbrev Cx.fs (X : Cx) : List Addr := frs X.outer
def Vis (sc : Scope) (x : Str) : Prop := sc.names.lookup x = some .local ∨ sc.names.lookup x = some .cell ∨ sc.names.lookup x = some .free
def Loc (sc : Scope) (x : Str) : Prop := sc.names.lookup x = some .local ∨ sc.names.lookup x = some .cell
def Look (env : Env) (h : Heap) (m : Str → Option Value) (x : Str) (u : Value) : Prop :=
  (env.kindOf x = some .local ∧ m x = some u) ∨ ((env.kindOf x = some .cell ∨ env.kindOf x = some .free) ∧ ∃ c, env.cells.lookup x = some c ∧ h.IsCell c (some u))
structure Cx.Ok (X : Cx) : Prop where
  mod : Mod X.K X.mg X.base
  kind : X.env.scope.kind = .function
  glob : X.env.globals = mainGlobals
  blt : X.env.builtins = builtinsNs
  above : X.s₀.heap.objs.size ≤ X.env.locals
  inj : ∀ x y c, X.env.cells.lookup x = some c → X.env.cells.lookup y = some c → x = y
  has : ∀ x, (X.env.kindOf x = some .cell ∨ X.env.kindOf x = some .free) → ∃ c, X.env.cells.lookup x = some c
  cab : ∀ x c, X.fn x = true → X.env.cells.lookup x = some c → X.s₀.heap.objs.size ≤ c
  hd : X.calm = true → X.A.handled = none
  frames : X.A.frames = some X.stack
  stk : X.stack = X.outer ∨ (X.stack = X.env :: X.outer ∧ X.env.frame = some X.env.locals)
  exf : ∀ b ∈ X.ex, b ≠ X.env.locals ∧ ∀ x c, X.env.cells.lookup x = some c → c ≠ b
  bs : ∀ b o, X.base.get? b = some o → X.s₀.heap.get? b = some o ∧ X.H₀ b = none
  bsz : X.base.objs.size ≤ X.s₀.heap.objs.size
  noex : ∀ b o, X.base.get? b = some o → b ∉ X.ex
  exfs : ∀ b ∈ X.ex, b ∉ X.fs
  funs : X.s₀.heap.FunFrames X.base X.outer
  frf : ∀ b ∈ X.fs, X.H₀ b = none
structure Inv (X : Cx) (pins : List (Addr × Obj)) (σ : List (Option V)) (H : Hp) (s : Shared) : Prop where
  ok : X.Ok
  os : s.os = X.s₀.os
  bare : AllBare s.gens
  base : Un X.fs X.ex X.H₀ H X.s₀.heap s.heap
  loc : ∃ m, s.heap.Ns X.env.locals m ∧ ∀ (i : Nat) (x : Str) (v : V), X.N[i]? = some x → σ[i]? = some (some v) → Vis X.env.scope x → ∃ u, RelV v u ∧ Look X.env s.heap m x u
  cell : ∀ x c, X.env.cells.lookup x = some c → ∃ v, s.heap.IsCell c v
  free : H X.env.locals = none
  freeC : ∀ x c, X.env.cells.lookup x = some c → H c = none
  pin : ∀ p ∈ X.pn ++ pins, s.heap.get? p.1 = some p.2 ∧ H p.1 = none ∧ p.1 ≠ X.env.locals ∧ p.1 ∉ X.fs ∧ ∀ v, p.2.data ≠ .cell v
  hok : HOk X.prog X.w H s.heap
  len : σ.length = X.N.length
section
variable {X : Cx} {pins : List (Addr × Obj)} {σ : List (Option V)} {H H' : Hp} {s : Shared} {h' : Heap}
theorem Cx.Ok.nofr (ok : X.Ok) {b : Addr} {o : Obj} (e : X.base.get? b = some o) : b ∉ X.fs := fun hb => by
  have := (ok.funs.mem hb).1
  rw [e] at this; cases this
theorem Inv.bs (I : Inv X pins σ H s) : ∀ b o, X.base.get? b = some o → s.heap.get? b = some o ∧ H b = none := fun b o e =>
  ⟨I.base.keep b o (I.ok.bs b o e).1 (I.ok.bs b o e).2 (I.ok.nofr e) (I.ok.noex b o e), I.base.free b o (I.ok.bs b o e).1 (I.ok.bs b o e).2 (I.ok.noex b o e)⟩
theorem Inv.bk (I : Inv X pins σ H s) : ∀ b o, X.base.get? b = some o → s.heap.get? b = some o := fun b o e => (I.bs b o e).1
theorem Inv.mod (I : Inv X pins σ H s) : Mod X.K X.mg X.base := I.ok.mod
theorem Inv.kIn (I : Inv X pins σ H s) : X.K.In s.heap := I.ok.mod.kin.keeps I.bk
theorem Inv.lt (I : Inv X pins σ H s) : X.env.locals < s.heap.objs.size := let ⟨_, hn, _⟩ := I.loc; hn.lt
theorem Inv.sz (I : Inv X pins σ H s) : X.s₀.heap.objs.size ≤ s.heap.objs.size := Nat.le_trans I.ok.above (Nat.le_of_lt I.lt)
theorem Inv.nofs (I : Inv X pins σ H s) {a : Addr} (h : s.heap.objs.size ≤ a) : a ∉ X.fs := fun hb => by
  obtain ⟨_, o, ho, _⟩ := I.ok.funs.mem hb
  exact absurd (Nat.lt_of_lt_of_le (Heap.lt_size ho) (Nat.le_trans I.sz h)) (Nat.lt_irrefl _)
theorem Inv.cne (I : Inv X pins σ H s) : ∀ x c, X.env.cells.lookup x = some c → c ≠ X.env.locals := fun x c e z => by
  obtain ⟨v, o, ho, hd⟩ := I.cell x c e
  obtain ⟨m, ⟨o', es, ep, ho', hd', _⟩, _⟩ := I.loc
  rw [z, ho'] at ho; cases ho; rw [hd'] at hd; cases hd
theorem Inv.funs (I : Inv X pins σ H s) : s.heap.FunFrames X.base X.outer := by
  have all : ∀ (l : List Env), (∀ b ∈ frs l, b ∈ X.fs) → X.s₀.heap.FunFrames X.base l → s.heap.FunFrames X.base l := by
    intro l
    induction l with
    | nil => intro _ _; trivial
    | cons env r ih =>
      intro hs hl
      obtain ⟨hk, ⟨L, o, hf, hn, ho, hd⟩, hr⟩ := hl
      have hL : L ∈ X.fs := hs L (by unfold frs; rw [List.filterMap_cons, hf]; exact List.mem_cons_self)
      obtain ⟨sl, e⟩ := I.base.slot L o ho (I.ok.frf L hL) hL fun z => I.ok.exfs L z hL
      exact ⟨hk, ⟨L, _, hf, hn, e, hd⟩, ih (fun b hb => hs b (by unfold frs; rw [List.filterMap_cons, hf]; exact List.mem_cons_of_mem _ hb)) hr⟩
  exact all X.outer (fun _ hb => hb) I.ok.funs
theorem Inv.stack (I : Inv X pins σ H s) : s.heap.FunFrames X.base X.stack := by
  rcases I.ok.stk with e | ⟨e, hf⟩
  · rw [e]; exact I.funs
  · rw [e]
    obtain ⟨m, hn, _⟩ := I.loc
    refine .cons (by rw [I.ok.kind]; decide) hf hn ?_ I.funs
    exact Heap.get?_none_of_le (Nat.le_trans I.ok.bsz I.ok.above)
theorem Inv.stkSub (I : Inv X pins σ H s) : ∀ b ∈ frs X.stack, b ∈ X.env.locals :: X.fs := fun b hb => by
  rcases I.ok.stk with e | ⟨e, hf⟩
  · rw [e] at hb; exact List.mem_cons_of_mem _ hb
  · rw [e] at hb
    unfold frs at hb
    rw [List.filterMap_cons, hf] at hb
    exact hb
theorem Inv.stkFree (I : Inv X pins σ H s) : ∀ b ∈ frs X.stack, H b = none := fun b hb => by
  rcases List.mem_cons.mp (I.stkSub b hb) with e | hb
  · rw [e]; exact I.free
  · obtain ⟨_, o, ho, _⟩ := I.ok.funs.mem hb
    exact I.base.free b o ho (I.ok.frf b hb) fun z => I.ok.exfs b z hb
theorem Inv.step {g' : Array GenState} {t' : Nat} {d' : Drawn} {ch : List Addr} (I : Inv X pins σ H s)
    (hch : ∀ b ∈ ch, (b ∈ X.ex ∨ X.s₀.heap.objs.size ≤ b) ∧ b ≠ X.env.locals ∧ (∀ x c, X.env.cells.lookup x = some c → c ≠ b) ∧ ∀ p ∈ X.pn ++ pins, p.1 ≠ b)
    (keep : ∀ b o, b ≠ X.env.locals → b ∉ X.fs → b ∉ ch → s.heap.get? b = some o → H b = none → h'.get? b = some o)
    (slot : ∀ b o, b ≠ X.env.locals → b ∈ X.fs → b ∉ ch → s.heap.get? b = some o → H b = none → ∃ sl, h'.get? b = some { o with slots := sl }) (free : ∀ b o, b ∉ ch → s.heap.get? b = some o → H b = none → H' b = none)
    (there : ∀ b o, b ∉ ch → s.heap.get? b = some o → ∃ o', h'.get? b = some o')
    (tups : ∀ b xs, H b = some (.tup xs) → H' b = some (.tup xs)) (frzs : ∀ b o u, H b = some (.frz o u) → H' b = some (.frz o u)) (tbls : ∀ b ps, H b = some (.tbl ps) → ∃ more, H' b = some (.tbl (ps ++ more)))
    (ns : ∀ m, s.heap.Ns X.env.locals m → h'.Ns X.env.locals m) (hok : HOk X.prog X.w H' h') (hg : AllBare g') :
    Inv X pins σ H' { s with heap := h', gens := g', drawn := d', toks := t' } := by
  have neL : ∀ b o, X.s₀.heap.get? b = some o → b ≠ X.env.locals := fun b o e => Nat.ne_of_lt (Nat.lt_of_lt_of_le (Heap.lt_size e) I.ok.above)
  have neC : ∀ b o, X.s₀.heap.get? b = some o → b ∉ X.ex → b ∉ ch := fun b o e hx hb => by
    rcases (hch b hb).1 with z | z
    · exact hx z
    · exact absurd (Nat.lt_of_lt_of_le (Heap.lt_size e) z) (Nat.lt_irrefl _)
  have cellK : ∀ x c, X.env.cells.lookup x = some c → ∀ v, s.heap.IsCell c v → h'.IsCell c v := fun x c e v ⟨o, ho, hd⟩ => by
    have nch : c ∉ ch := fun z => (hch c z).2.2.1 x c e rfl
    by_cases hc : c ∈ X.fs
    · obtain ⟨sl, q⟩ := slot c o (I.cne x c e) hc nch ho (I.freeC x c e)
      exact ⟨_, q, hd⟩
    · exact ⟨o, keep c o (I.cne x c e) hc nch ho (I.freeC x c e), hd⟩
  refine ⟨I.ok, I.os, hg, ⟨fun b o e n hb hx => ?_, fun b o e n hb hx => ?_, fun b o e n hx => ?_, fun b o e hx => ?_, fun b xs e => tups b xs (I.base.tups b xs e), fun b o xs e => frzs b o xs (I.base.frzs b o xs e), fun b ps e => ?_⟩, ?_, fun x c e => ?_, ?_, fun x c e => ?_, fun p hp => ?_, hok, I.len⟩
  · exact keep b o (neL b o e) hb (neC b o e hx) (I.base.keep b o e n hb hx) (I.base.free b o e n hx)
  · obtain ⟨sl, e1⟩ := I.base.slot b o e n hb hx
    obtain ⟨sl', e2⟩ := slot b _ (neL b o e) hb (neC b o e hx) e1 (I.base.free b o e n hx)
    exact ⟨sl', e2⟩
  · obtain ⟨o', e1⟩ := I.base.there b o e hx
    exact free b o' (neC b o e hx) e1 (I.base.free b o e n hx)
  · obtain ⟨o', e1⟩ := I.base.there b o e hx
    exact there b o' (neC b o e hx) e1
  · obtain ⟨m1, e1⟩ := I.base.tbls b ps e
    obtain ⟨m2, e2⟩ := tbls b _ e1
    exact ⟨m1 ++ m2, by rw [e2, Array.append_assoc]⟩
  · obtain ⟨m, hn, hl⟩ := I.loc
    refine ⟨m, ns m hn, fun i x v e1 e2 e3 => ?_⟩
    obtain ⟨u, r, l⟩ := hl i x v e1 e2 e3
    refine ⟨u, r, ?_⟩
    rcases l with l | ⟨k, c, e, z⟩
    · exact .inl l
    · exact .inr ⟨k, c, e, cellK x c e _ z⟩
  · obtain ⟨v, z⟩ := I.cell x c e
    exact ⟨v, cellK x c e v z⟩
  · obtain ⟨m, ⟨o, _, _, ho, _⟩, _⟩ := I.loc
    exact free _ o (fun z => (hch _ z).2.1 rfl) ho I.free
  · obtain ⟨v, o, ho, hd⟩ := I.cell x c e
    exact free c o (fun z => (hch c z).2.2.1 x c e rfl) ho (I.freeC x c e)
  · obtain ⟨e, n, ne, nf, d⟩ := I.pin p hp
    have nch : p.1 ∉ ch := fun z => (hch p.1 z).2.2.2 p hp rfl
    exact ⟨keep p.1 p.2 ne nf nch e n, free p.1 p.2 nch e n, ne, nf, d⟩
theorem Inv.un {t' : Nat} (I : Inv X pins σ H s) (u : Un X.fs [] H H' s.heap h') (hok : HOk X.prog X.w H' h') : Inv X pins σ H' { s with heap := h', toks := t' } := by
  obtain ⟨m, ⟨o, es, ep, ho, r⟩, _⟩ := id I.loc
  obtain ⟨sl, hL⟩ := u.any ho I.free (by simp)
  exact I.step (g' := s.gens) (d' := s.drawn) (ch := []) (fun _ z => nomatch z) (fun b o _ hb _ e n => u.keep b o e n hb (by simp)) (fun b o _ hb _ e n => u.slot b o e n hb (by simp)) (fun b o _ e n => u.free b o e n (by simp)) (fun b o _ e => u.there b o e (by simp)) u.tups u.frzs u.tbls (fun m' hm => by
    obtain ⟨o', es', ep', ho', r'⟩ := hm
    rw [ho] at ho'; cases ho'
    exact ⟨_, es', ep', hL, r'⟩) hok I.bare
theorem Inv.call {g' : Array GenState} {t' : Nat} {d' : Drawn} {ch : List Addr} (I : Inv X pins σ H s) (u : Un (frs X.stack) ch H H' s.heap h') (hok : HOk X.prog X.w H' h') (hg : AllBare g')
    (hch : ∀ b ∈ ch, (b ∈ X.ex ∨ X.s₀.heap.objs.size ≤ b) ∧ b ≠ X.env.locals ∧ (∀ x c, X.env.cells.lookup x = some c → c ≠ b) ∧ ∀ p ∈ X.pn ++ pins, p.1 ≠ b) :
    Inv X pins σ H' { s with heap := h', gens := g', drawn := d', toks := t' } := by
  obtain ⟨m, ⟨o, es, ep, ho, r⟩, _⟩ := id I.loc
  obtain ⟨sl, hL⟩ := u.any ho I.free fun z => (hch _ z).2.1 rfl
  exact I.step (ch := ch) hch (fun b o hL hb hc e n => u.keep b o e n (fun z => (List.mem_cons.mp (I.stkSub b z)).elim hL hb) hc) (fun b o _ _ hc e n => u.any e n hc) (fun b o hc e n => u.free b o e n hc) (fun b o hc e => u.there b o e hc) u.tups u.frzs u.tbls (fun m' hm => by
    obtain ⟨o', es', ep', ho', r'⟩ := hm
    rw [ho] at ho'; cases ho'
    exact ⟨_, es', ep', hL, r'⟩) hok hg
theorem Inv.turned {t' : Nat} {it : Addr} (I : Inv X pins σ H s) (k : ∀ b o, b ≠ it → s.heap.get? b = some o → h'.get? b = some o) (hn : H it = none) (hL : it ≠ X.env.locals)
    (h1 : it ∈ X.ex ∨ X.s₀.heap.objs.size ≤ it) (h2 : ∀ x c, X.env.cells.lookup x = some c → c ≠ it) (h3 : ∀ p ∈ X.pn ++ pins, p.1 ≠ it) : Inv X pins σ H { s with heap := h', toks := t' } := by
  have nit : ∀ b u, H b = some u → b ≠ it := fun b u e z => by rw [z, hn] at e; cases e
  refine I.step (g' := s.gens) (d' := s.drawn) (ch := [it]) (fun b hb => ?_) (fun b o _ _ hc e _ => k b o (fun z => hc (by simp [z])) e) (fun b o _ _ hc e _ => ⟨o.slots, k b o (fun z => hc (by simp [z])) e⟩) (fun _ _ _ _ n => n)
    (fun b o hc e => ⟨o, k b o (fun z => hc (by simp [z])) e⟩) (fun _ _ e => e) (fun _ _ _ e => e) (fun b ps e => ⟨#[], by rw [e]; simp⟩) (fun m hm => ?_) (fun b u e => ?_) I.bare
  · have e : b = it := by simpa using hb
    subst e
    exact ⟨h1, hL, h2, h3⟩
  · obtain ⟨o, es, ep, ho, r⟩ := hm
    exact ⟨o, es, ep, k _ o (Ne.symm hL) ho, r⟩
  · refine (I.hok b u e).stay (fun c v hc q => k c v ?_ q) (fun _ q => q) fun _ _ q => q
    rcases hc with z | z
    · rw [z]; exact nit b u e
    · exact nit c _ z
theorem Inv.tok (I : Inv X pins σ H s) (t : Nat) : Inv X pins σ H { s with toks := t } := I.un (h' := s.heap) (t' := t) Un.refl I.hok
theorem Inv.kept {t' : Nat} (I : Inv X pins σ H s) (k : ∀ b u, s.heap.get? b = some u → h'.get? b = some u) : Inv X pins σ H { s with heap := h', toks := t' } := I.un (Un.kept k) (I.hok.kept k)
theorem Inv.laid {a : Addr} {o : HO} {t' : Nat} (I : Inv X pins σ H s) (k : ∀ b u, s.heap.get? b = some u → h'.get? b = some u) (hp : s.heap.objs.size ≤ a) (new : ObjOk X.prog X.w (upd H a o) h' a o) :
    Inv X pins σ (upd H a o) { s with heap := h', toks := t' } := I.un (Un.laid k hp (I.hok.fresh hp)) (I.hok.laid k hp new)
theorem Inv.write {x e : Addr} {o : HO} {t' : Nat} (I : Inv X pins σ H s) (mu : Mut (H x)) (he : e = x ∨ H e = some (.own x)) (k : ∀ b u, b ≠ e → s.heap.get? b = some u → h'.get? b = some u) (heo : ∃ u, h'.get? e = some u)
    (new : ObjOk X.prog X.w (upd H x o) h' x o) : Inv X pins σ (upd H x o) { s with heap := h', toks := t' } := I.un (Un.write mu he k heo) (I.hok.write mu he k heo new)
theorem Inv.pins_of {pins' : List (Addr × Obj)} (I : Inv X pins σ H s) (h : ∀ p ∈ pins', s.heap.get? p.1 = some p.2 ∧ H p.1 = none ∧ p.1 ≠ X.env.locals ∧ p.1 ∉ X.fs ∧ ∀ v, p.2.data ≠ .cell v) : Inv X pins' σ H s :=
  ⟨I.ok, I.os, I.bare, I.base, I.loc, I.cell, I.free, I.freeC, fun p hp => (List.mem_append.mp hp).elim (fun z => I.pin p (List.mem_append_left _ z)) (h p), I.hok, I.len⟩
theorem nodup_ix {N : List Str} (hN : N.Nodup) {i j : Nat} {x : Str} (a : N[i]? = some x) (b : N[j]? = some x) : i = j := by
  obtain ⟨h1, e1⟩ := List.getElem?_eq_some_iff.mp a
  obtain ⟨h2, e2⟩ := List.getElem?_eq_some_iff.mp b
  exact (List.getElem_inj hN).mp (e1.trans e2.symm)
theorem store_ok2 {M : Model} {A : Around} {E : Value → Shared → Prop} {i : Nat} {x : Str} {v : V} {u : Value} {Q : Unit → Shared → Prop} (I : Inv X pins σ H s) (hN : X.N.Nodup) (hi : X.N[i]? = some x) (hx : Loc X.env.scope x) (r : RelV v u)
    (h : ∀ s', Inv X pins (σ.set i (some v)) H s' → (∃ a, Heap.SameBut a s.heap s'.heap ∧ (a = X.env.locals ∨ X.env.cells.lookup x = some a)) → Q () s') (hf : X.fn x = true ∨ X.env.scope.names.lookup x = some .local := by first | exact .inl rfl | exact .inr rfl | assumption) : wpAny M A (storeName X.env x u) Q E s := by
  obtain ⟨m, hn, hl⟩ := id I.loc
  have hcls : (X.env.scope.kind == .class || (X.env.scope.kind == .module && X.env.locals != X.env.globals)) = false := by rw [I.ok.kind]; rfl
  have hiσ : i < σ.length := by rw [I.len]; exact (List.getElem?_eq_some_iff.mp hi).1
  have cne := I.cne
  have tracked : ∀ {a : Addr} {h' : Heap}, (∃ o, s.heap.get? a = some o ∧ H a = none) → Heap.SameBut a s.heap h' → HOk X.prog X.w H h' := fun {a h'} ha hs b ob e => by
    obtain ⟨_, _, hfree⟩ := ha
    refine (I.hok b ob e).stay (fun c w' hc q => (hs.2 c ?_).trans q) (fun _ q => q) fun _ _ q => q
    rintro rfl
    rcases hc with rfl | hc
    · rw [hfree] at e; cases e
    · rw [hfree] at hc; cases hc
  rcases hx with hk | hk
  · refine wpAny_storeName_local hk hn (fun h' hn' hs => ?_) hcls
    obtain ⟨oL, _, _, hoL, _⟩ := id hn
    refine h _ ⟨I.ok, I.os, I.bare, ⟨fun b o e n hb hx => ?_, fun b o e n hb hx => ?_, I.base.free, fun b o e hx => ?_, I.base.tups, I.base.frzs, I.base.tbls⟩, ⟨_, hn', fun j y v' e1 e2 e3 => ?_⟩, fun y c e => ?_, I.free, I.freeC, fun p hp => ?_, tracked ⟨oL, hoL, I.free⟩ hs, by simpa using I.len⟩ ⟨_, hs, .inl rfl⟩
    · exact (hs.2 b (Nat.ne_of_lt (Nat.lt_of_lt_of_le (Heap.lt_size e) I.ok.above))).trans (I.base.keep b o e n hb hx)
    · obtain ⟨sl, e1⟩ := I.base.slot b o e n hb hx
      exact ⟨sl, (hs.2 b (Nat.ne_of_lt (Nat.lt_of_lt_of_le (Heap.lt_size e) I.ok.above))).trans e1⟩
    · obtain ⟨o', e1⟩ := I.base.there b o e hx
      exact ⟨o', (hs.2 b (Nat.ne_of_lt (Nat.lt_of_lt_of_le (Heap.lt_size e) I.ok.above))).trans e1⟩
    · by_cases hj : j = i
      · subst hj
        rw [hi] at e1; cases e1
        rw [List.getElem?_set_self hiσ] at e2
        cases e2
        exact ⟨u, r, .inl ⟨hk, by simp⟩⟩
      · rw [List.getElem?_set_ne (Ne.symm hj)] at e2
        obtain ⟨u', r', q⟩ := hl j y v' e1 e2 e3
        refine ⟨u', r', ?_⟩
        rcases q with ⟨k, e⟩ | ⟨k, c, e, z⟩
        · refine .inl ⟨k, ?_⟩
          have : y ≠ x := fun e => hj (nodup_ix hN e1 (e ▸ hi))
          simp [this, e]
        · exact .inr ⟨k, c, e, z.sameBut hs (cne y c e)⟩
    · obtain ⟨w', z⟩ := I.cell y c e
      exact ⟨w', z.sameBut hs (cne y c e)⟩
    · obtain ⟨e, n, ne, nf, d⟩ := I.pin p hp
      exact ⟨(hs.2 p.1 ne).trans e, n, ne, nf, d⟩
  · have hfn : X.fn x = true := by
      rcases hf with z | z
      · exact z
      · rw [z] at hk; cases hk
    obtain ⟨c, hc⟩ := I.ok.has x (.inl hk)
    obtain ⟨w', z⟩ := I.cell x c hc
    refine wpAny_storeName_cell I.ok.kind hk hc z (fun h' hc' hs => ?_)
    obtain ⟨oc, hoc, hocd⟩ := id z
    refine h { s with heap := h' } ⟨I.ok, I.os, I.bare, ⟨fun b o e n hb hx => ?_, fun b o e n hb hx => ?_, I.base.free, fun b o e hx => ?_, I.base.tups, I.base.frzs, I.base.tbls⟩, ⟨m, hn.sameBut hs (Ne.symm (cne x c hc)), fun j y v' e1 e2 e3 => ?_⟩, fun y c' e => ?_, I.free, I.freeC, fun p hp => ?_, tracked ⟨oc, hoc, I.freeC x c hc⟩ hs, by simpa using I.len⟩ ⟨c, hs, .inr hc⟩
    · exact (hs.2 b (Nat.ne_of_lt (Nat.lt_of_lt_of_le (Heap.lt_size e) (I.ok.cab x c hfn hc)))).trans (I.base.keep b o e n hb hx)
    · obtain ⟨sl, e1⟩ := I.base.slot b o e n hb hx
      exact ⟨sl, (hs.2 b (Nat.ne_of_lt (Nat.lt_of_lt_of_le (Heap.lt_size e) (I.ok.cab x c hfn hc)))).trans e1⟩
    · obtain ⟨o', e1⟩ := I.base.there b o e hx
      exact ⟨o', (hs.2 b (Nat.ne_of_lt (Nat.lt_of_lt_of_le (Heap.lt_size e) (I.ok.cab x c hfn hc)))).trans e1⟩
    · by_cases hj : j = i
      · subst hj
        rw [hi] at e1; cases e1
        rw [List.getElem?_set_self hiσ] at e2
        cases e2
        exact ⟨u, r, .inr ⟨.inl hk, c, hc, hc'⟩⟩
      · rw [List.getElem?_set_ne (Ne.symm hj)] at e2
        obtain ⟨u', r', q⟩ := hl j y v' e1 e2 e3
        refine ⟨u', r', ?_⟩
        rcases q with q | ⟨k, c', e, z'⟩
        · exact .inl q
        · refine .inr ⟨k, c', e, z'.sameBut hs ?_⟩
          rintro rfl
          exact hj (nodup_ix hN e1 (I.ok.inj _ _ _ e hc ▸ hi))
    · by_cases hcc : c' = c
      · subst hcc; exact ⟨_, hc'⟩
      · obtain ⟨w2, z2⟩ := I.cell y c' e
        exact ⟨w2, z2.sameBut hs hcc⟩
    · obtain ⟨e, n, ne, nf, d⟩ := I.pin p hp
      refine ⟨(hs.2 p.1 ?_).trans e, n, ne, nf, d⟩
      intro q
      rw [q, hoc] at e
      have q' : oc = p.2 := Option.some.inj e
      exact d w' (by rw [← q']; exact hocd)
theorem store_ok {M : Model} {A : Around} {E : Value → Shared → Prop} {i : Nat} {x : Str} {v : V} {u : Value} {Q : Unit → Shared → Prop} (I : Inv X pins σ H s) (hN : X.N.Nodup) (hi : X.N[i]? = some x) (hx : Loc X.env.scope x) (r : RelV v u)
    (h : ∀ s', Inv X pins (σ.set i (some v)) H s' → Q () s') (hf : X.fn x = true ∨ X.env.scope.names.lookup x = some .local := by first | exact .inl rfl | exact .inr rfl | assumption) : wpAny M A (storeName X.env x u) Q E s :=
  store_ok2 I hN hi hx r (fun s' I' _ => h s' I') hf
theorem Inv.call' {s' : Shared} {ch : List Addr} (I : Inv X pins σ H s) (ho : s'.os = s.os) (u : Un (frs X.stack) ch H H' s.heap s'.heap) (hok : HOk X.prog X.w H' s'.heap) (hg : AllBare s'.gens)
    (hch : ∀ b ∈ ch, (b ∈ X.ex ∨ X.s₀.heap.objs.size ≤ b) ∧ b ≠ X.env.locals ∧ (∀ x c, X.env.cells.lookup x = some c → c ≠ b) ∧ ∀ p ∈ X.pn ++ pins, p.1 ≠ b) : Inv X pins σ H' s' := by
  obtain ⟨h', g', d', t', o'⟩ := s'
  have e : o' = s.os := ho
  subst e
  exact I.call (g' := g') (t' := t') (d' := d') u hok hg hch
end
abbrev XK := Value → Option Addr → Hp → Prop
abbrev St := List (Option V)
abbrev VK := V → Hp → Prop
abbrev TE := St → Hp → VK → Prop
abbrev TT := St → Hp → (Bool → Hp → Prop) → Prop
abbrev TA := St → Hp → (List V → Hp → Prop) → Prop
structure Ends where
  nx : St → Hp → Prop
  rt : VK
  bk : St → Hp → Prop := fun _ _ => False
  ct : St → Hp → Prop := fun _ _ => False
abbrev TS := Ends → St → Hp → Prop
inductive EP (X : Cx) (pins : List (Addr × Obj)) (σ : St) (Q : VK) (u : Value) (s' : Shared) : Prop
  | mk (v H') (h1 : Inv X pins σ H' s') (h2 : RelV v u) (h3 : Q v H')
def TP (X : Cx) (pins : List (Addr × Obj)) (σ : St) (Q : Bool → Hp → Prop) (b : Bool) (s' : Shared) : Prop := ∃ H', Inv X pins σ H' s' ∧ Q b H'
inductive AP (X : Cx) (pins : List (Addr × Obj)) (σ : St) (Q : List V → Hp → Prop) (us : List Value) (s' : Shared) : Prop
  | mk (vs H') (h1 : Inv X pins σ H' s') (h2 : Vals vs us) (h3 : Q vs H')
def SP (X : Cx) (pins : List (Addr × Obj)) (D : Ends) (f : Flow) (s' : Shared) : Prop :=
  match f with
  | .next => ∃ σ' H', Inv X pins σ' H' s' ∧ D.nx σ' H'
  | .brk => ∃ σ' H', Inv X pins σ' H' s' ∧ D.bk σ' H'
  | .cont => ∃ σ' H', Inv X pins σ' H' s' ∧ D.ct σ' H'
  | .ret u => ∃ v σ' H', Inv X pins σ' H' s' ∧ RelV v u ∧ D.rt v H'
def PE (X : Cx) (e : Expr) (t : TE) : Prop :=
  ∀ (pins : List (Addr × Obj)) (s : Shared) (σ : St) (H : Hp) (Q : VK), Inv X pins σ H s → t σ H Q → wpAny (model X.prog X.w) X.A (eval e X.env) (EP X pins σ Q) X.xe s
def PT (X : Cx) (e : Expr) (t : TT) : Prop :=
  ∀ (pins : List (Addr × Obj)) (s : Shared) (σ : St) (H : Hp) (Q : Bool → Hp → Prop), Inv X pins σ H s → t σ H Q → wpAny (model X.prog X.w) X.A (isTrue e X.env (eval e X.env)) (TP X pins σ Q) X.xe s
def PW (X : Cx) (e : Expr) (t : TT) : Prop :=
  ∀ (whole : Sem Value) (pins : List (Addr × Obj)) (s : Shared) (σ : St) (H : Hp) (Q : Bool → Hp → Prop), Inv X pins σ H s → t σ H Q → wpAny (model X.prog X.w) X.A (isTrue e X.env whole) (TP X pins σ Q) X.xe s
theorem PW.pt {X : Cx} {e : Expr} {t : TT} (h : PW X e t) : PT X e t := h _
def PA (X : Cx) (es : List Expr) (t : TA) : Prop :=
  ∀ (pos : Pos) (pins : List (Addr × Obj)) (s : Shared) (σ : St) (H : Hp) (Q : List V → Hp → Prop), Inv X pins σ H s → t σ H Q → wpAny (model X.prog X.w) X.A (spliced (backTo pos (starEach es X.env))) (AP X pins σ Q) X.xe s
def PS (X : Cx) (st : Stmt) (t : TS) : Prop :=
  ∀ (pins : List (Addr × Obj)) (s : Shared) (σ : St) (H : Hp) (D : Ends), Inv X pins σ H s → t D σ H → wpAny (model X.prog X.w) X.A (exec st X.env) (SP X pins D) X.xe s
def PSs (X : Cx) (st : List Stmt) (t : TS) : Prop :=
  ∀ (pins : List (Addr × Obj)) (s : Shared) (σ : St) (H : Hp) (D : Ends), Inv X pins σ H s → t D σ H → wpAny (model X.prog X.w) X.A (execs st X.env) (SP X pins D) X.xe s
theorem thn {α : Type} {t : Sem α} {Q Q' : α → Shared → Prop} {M : Model} {A : Around} {E : Value → Shared → Prop} {s : Shared} (h : wpAny M A t Q E s) (hQ : ∀ a s, Q a s → Q' a s) : wpAny M A t Q' E s := wpAny_mono h hQ fun _ _ x => x
end L2
namespace L2
open PySem PySem.Spec PyProof.Rows
section
variable {X : Cx}
inductive tVar (i : Nat) (σ : St) (H : Hp) (Q : VK) : Prop
  | mk (v) (h1 : σ[i]? = some (some v)) (h2 : Q v H) : tVar i σ H Q
def tC (v : V) : TE := fun _ H Q => Q v H
theorem pe_var {i : Nat} {x : Str} {pos : Pos} (hN : X.N[i]? = some x) (hv : Vis X.env.scope x) (hd : (x == ("__debug__" : Str)) = false := by decide) (hcd : (x == ("__classdict__" : Str)) = false := by decide) : PE X (.Name x pos) (tVar i) := by
  intro pins s σ H Q I h
  obtain ⟨v, e, h⟩ := h
  obtain ⟨m, hn, hl⟩ := I.loc
  obtain ⟨u, r, l⟩ := hl i x v hN e hv
  have fin : EP X pins σ Q u s := ⟨v, H, I, r, h⟩
  rcases l with ⟨hk, hm⟩ | ⟨hk, c, hc, hcell⟩
  · exact wpAny_Name (wpAny_loadName_local I.ok.kind hk hn hm fin) hd
  · rcases hk with hk | hk
    · exact wpAny_Name (wpAny_loadName_cell I.ok.kind hk hc hcell fin) hd
    · exact wpAny_Name (wpAny_loadName_free I.ok.kind hk hc hcell fin hcd) hd
theorem pe_int {i j pos} : PE X (.Constant (.int i) j pos) (tC (.int i)) := fun _ _ _ H _ I h => wpAny_Constant_int ⟨.int i, H, I.tok _, ⟨_, rfl⟩, h⟩
theorem pe_bl {b j pos} : PE X (.Constant (.bool b) j pos) (tC (.bl b)) := fun _ _ _ H _ I h => Constant_bool ⟨.bl b, H, I, rfl, h⟩
theorem pe_non {j pos} : PE X (.Constant .none j pos) (tC .non) := fun _ _ _ H _ I h => Constant_none ⟨.non, H, I, rfl, h⟩
theorem pe_str {x j pos} : PE X (.Constant (.str x) j pos) (tC (.str x)) := fun _ _ _ H _ I h => Calls.Constant_str ⟨.str x, H, I.tok _, ⟨_, rfl⟩, h⟩
def Gl (X : Cx) (x : Str) : Prop := X.env.kindOf x = some .globalImplicit
theorem ld_glob {E : Value → Shared → Prop} {pins : List (Addr × Obj)} {s : Shared} {σ : St} {H : Hp} {x : Str} {u : Value} {pos : Pos} {Q : Value → Shared → Prop} (I : Inv X pins σ H s) (hg : Gl X x) (hm : X.mg x = some u) (h : Q u s)
    (hd : (x == ("__debug__" : Str)) = false := by decide) : wpAny (model X.prog X.w) X.A (eval (.Name x pos) X.env) Q E s :=
  Calls.Name_function_global I.ok.kind hg (Calls.loadGlobal_global (by rw [I.ok.glob]; exact I.mod.glob.keeps I.bk) hm h) hd
theorem ld_blt {E : Value → Shared → Prop} {pins : List (Addr × Obj)} {s : Shared} {σ : St} {H : Hp} {x : Str} {u : Value} {pos : Pos} {Q : Value → Shared → Prop} (I : Inv X pins σ H s) (hg : Gl X x) (hm : X.mg x = none) (hv : bootBuiltins x = some u) (h : Q u s)
    (hn : x ≠ "__name__" := by decide) (hd : (x == ("__debug__" : Str)) = false := by decide) : wpAny (model X.prog X.w) X.A (eval (.Name x pos) X.env) Q E s := by
  obtain ⟨mb, h1, h2⟩ := I.mod.blt
  exact Calls.Name_function_global I.ok.kind hg (Calls.loadGlobal_builtin (by rw [I.ok.glob]; exact I.mod.glob.keeps I.bk) hm (by rw [I.ok.blt]; exact h1.keeps I.bk) ((h2 x hn).trans hv) h) hd
theorem pe_glob {x : Str} {v : V} {u : Value} {pos : Pos} (hg : Gl X x) (hm : X.mg x = some u) (r : RelV v u) (hd : (x == ("__debug__" : Str)) = false := by decide) : PE X (.Name x pos) (tC v) :=
  fun _ _ _ H _ I h => ld_glob I hg hm ⟨v, H, I, r, h⟩ hd
theorem pe_bltn {x : Str} {v : V} {u : Value} {pos : Pos} (hg : Gl X x) (hm : X.mg x = none) (hv : bootBuiltins x = some u) (r : RelV v u) (hn : x ≠ "__name__" := by decide) (hd : (x == ("__debug__" : Str)) = false := by decide) : PE X (.Name x pos) (tC v) :=
  fun _ _ _ H _ I h => ld_blt I hg hm hv ⟨v, H, I, r, h⟩ hn hd
variable {a b : Expr} {ta tb : TE} {pos : Pos}
def PC (X : Cx) (op : CmpOp) (a b : Expr) (t : TE) : Prop :=
  ∀ (pins : List (Addr × Obj)) (s : Shared) (σ : St) (H : Hp) (Q : VK), Inv X pins σ H s → t σ H Q →
    wpAny (model X.prog X.w) X.A (eval a X.env) (fun v s₁ => wpAny (model X.prog X.w) X.A (eval b X.env) (fun u s₂ => wpAny (model X.prog X.w) X.A (compareOp op v u) (EP X pins σ Q) X.xe s₂) X.xe s₁) X.xe s
theorem nobehind (b : Expr) {op : CmpOp} (h : op ≠ .In) (h2 : op ≠ .NotIn) : behindInMarks op b = false := by
  have e1 : (op == CmpOp.In) = false := by cases op <;> first | rfl | exact absurd rfl h
  have e2 : (op == CmpOp.NotIn) = false := by cases op <;> first | rfl | exact absurd rfl h2
  cases b <;> simp [behindInMarks, e1, e2]
def tNotN (ta : TE) : TE := fun σ H Q => ta σ H fun x H1 => Q (.bl (!decide (x = .non))) H1
theorem RelV.none_iff {x : V} {v : Value} (r : RelV x v) : (v == Value.none) = decide (x = .non) := by
  cases x with
  | non => cases r; rfl
  | bl _ => cases r; rfl
  | int _ => obtain ⟨t, rfl⟩ := r; rfl
  | str _ => obtain ⟨t, rfl⟩ := r; rfl
  | byt _ => obtain ⟨t, rfl⟩ := r; rfl
  | flt _ => obtain ⟨t, rfl⟩ := r; rfl
  | ref _ => cases r; rfl
  | ty _ => cases r; rfl
theorem pc_notN {j pos'} (ha : PE X a ta) : PC X .IsNot a (.Constant .none j pos') (tNotN ta) := by
  intro pins s σ H Q I h
  refine thn (ha pins s σ H _ I h) fun v s1 ⟨x, H1, I1, r1, q1⟩ => ?_
  exact Constant_none (isnot_none_gen ⟨.bl _, H1, I1, by rw [r1.none_iff]; rfl, q1⟩)
inductive tbR (x : V) (H1 : Hp) (Q : Bool → Hp → Prop) : Prop
  | mk (c) (h1 : x = .bl c) (h2 : Q c H1) : tbR x H1 Q
def tB (t : TE) : TT := fun σ H Q => t σ H fun x H1 => tbR x H1 Q
theorem pe_cmp {op : CmpOp} {t : TE} (h : PC X op a b t) (h1 : behindInMarks op b = false := by first | exact nobehind _ (by decide) (by decide) | rfl) : PE X (.Compare a [op] [b] pos) t := fun pins s σ H Q I hw => wpAny_Compare1 (h pins s σ H Q I hw) h1
theorem pt_val {e : Expr} {t : TE} (h : PE X e t) (he : ∀ whole, isTrue e X.env whole = (do let v ← whole; standAt e.pos; holding [v] (truthy v)) := by intro _; rfl) : PT X e (tB t) := by
  intro pins s σ H Q I hw
  refine isTrue_plain (thn (h pins s σ H _ I hw) fun v s1 ⟨x, H1, I1, r1, q1⟩ => ?_) (he _)
  obtain ⟨d, rfl, q⟩ := q1
  cases r1
  exact wpAny_truthy_bool ⟨H1, I1, q⟩
variable {tA tB' : TT} {rest : List Expr}
def tAnd (t u : TT) : TT := fun σ H Q => t σ H fun c H1 => if c = true then u σ H1 Q else Q false H1
def tOr (t u : TT) : TT := fun σ H Q => t σ H fun c H1 => if c = true then Q true H1 else u σ H1 Q
def tNot (t : TT) : TT := fun σ H Q => t σ H fun c H1 => Q (!c) H1
theorem pw_and1 (ha : PT X a tA) : PW X (.BoolOp .And [a] pos) tA := by
  intro wh pins s σ H Q I h
  refine isTrue_and (thn (ha pins s σ H Q I h) fun c s1 e => ?_)
  cases c with
  | true => exact isTrue_and_nil e
  | false => exact e
theorem pw_or1 (ha : PT X a tA) : PW X (.BoolOp .Or [a] pos) tA := by
  intro wh pins s σ H Q I h
  refine isTrue_or (thn (ha pins s σ H Q I h) fun c s1 e => ?_)
  cases c with
  | false => exact isTrue_or_nil e
  | true => exact e
theorem pw_and (ha : PT X a tA) (hb : PW X (.BoolOp .And (b :: rest) pos) tB') : PW X (.BoolOp .And (a :: b :: rest) pos) (tAnd tA tB') := by
  intro wh pins s σ H Q I h
  refine isTrue_and (thn (ha pins s σ H _ I h) fun c s1 ⟨H1, I1, q1⟩ => ?_)
  cases c with
  | true => exact hb wh pins s1 σ H1 Q I1 q1
  | false => exact ⟨H1, I1, q1⟩
theorem pw_or (ha : PT X a tA) (hb : PW X (.BoolOp .Or (b :: rest) pos) tB') : PW X (.BoolOp .Or (a :: b :: rest) pos) (tOr tA tB') := by
  intro wh pins s σ H Q I h
  refine isTrue_or (thn (ha pins s σ H _ I h) fun c s1 ⟨H1, I1, q1⟩ => ?_)
  cases c with
  | true => exact ⟨H1, I1, q1⟩
  | false => exact hb wh pins s1 σ H1 Q I1 q1
theorem pt_not (ha : PT X a tA) : PT X (.UnaryOp .Not a pos) (tNot tA) := by
  intro pins s σ H Q I h
  exact isTrue_not (ha pins s σ H (fun c H1 => Q (!c) H1) I h)
def tAndV (ta tb : TE) : TE := fun σ H Q => ta σ H fun x H1 => ∃ c, x = .bl c ∧ if c = true then tb σ H1 Q else Q (.bl false) H1
def tOrV (ta tb : TE) : TE := fun σ H Q => ta σ H fun x H1 => ∃ c, x = .bl c ∧ if c = true then Q (.bl true) H1 else tb σ H1 Q
theorem pe_one {op} {t : TE} (h : PE X a t) : PE X (.BoolOp op [a] pos) t := fun pins s σ H Q I hw => BoolOp_one (h pins s σ H Q I hw)
theorem pe_and (ha : PE X a ta) (hb : PE X (.BoolOp .And (b :: rest) pos) tb) : PE X (.BoolOp .And (a :: b :: rest) pos) (tAndV ta tb) := by
  intro pins s σ H Q I h
  refine BoolOp_and (thn (ha pins s σ H _ I h) fun v s1 ⟨x, H1, I1, r1, q1⟩ => ?_)
  obtain ⟨c, rfl, q1⟩ := q1
  cases r1
  refine wpAny_truthy_bool ?_
  cases c with
  | true => exact hb pins s1 σ H1 Q I1 q1
  | false => exact ⟨.bl false, H1, I1, rfl, q1⟩
theorem pe_or (ha : PE X a ta) (hb : PE X (.BoolOp .Or (b :: rest) pos) tb) : PE X (.BoolOp .Or (a :: b :: rest) pos) (tOrV ta tb) := by
  intro pins s σ H Q I h
  refine BoolOp_or (thn (ha pins s σ H _ I h) fun v s1 ⟨x, H1, I1, r1, q1⟩ => ?_)
  obtain ⟨c, rfl, q1⟩ := q1
  cases r1
  refine wpAny_truthy_bool ?_
  cases c with
  | false => exact hb pins s1 σ H1 Q I1 q1
  | true => exact ⟨.bl true, H1, I1, rfl, q1⟩
def tIf (t : TT) (ta tb : TE) : TE := fun σ H Q => t σ H fun c H1 => if c = true then ta σ H1 Q else tb σ H1 Q
theorem pe_ifExp {c : Expr} (hc : PT X c tA) (ha : PE X a ta) (hb : PE X b tb) : PE X (.IfExp c a b pos) (tIf tA ta tb) := by
  intro pins s σ H Q I h
  refine wpAny_IfExp (thn (hc pins s σ H _ I h) fun d s1 ⟨H1, I1, q1⟩ => ?_)
  cases d with
  | true => exact ha pins s1 σ H1 Q I1 q1
  | false => exact hb pins s1 σ H1 Q I1 q1
end
end L2
namespace L2
open PySem PySem.Spec PyProof.Rows
def SqL (K : PySem.W.Frag) (H : Hp) (a : Addr) (xs : List V) : Prop :=
  Rd H a (.lst xs) ∨
    ∃ (o : Obj) (its : Array Value) (n : Nat), K.lookup a = some o ∧ o.cls = .type "list" ∧ o.dict = none ∧ o.data = .seq its n ∧ its.size ≤ sizeLine ∧ Vals xs its.toList
def SqT (K : PySem.W.Frag) (H : Hp) (a : Addr) (xs : List V) : Prop :=
  Rd H a (.tup xs) ∨
    ∃ (o : Obj) (its : Array Value) (n : Nat), K.lookup a = some o ∧ o.cls = .type "tuple" ∧ o.data = .seq its n ∧ its.size ≤ sizeLine ∧ Vals xs its.toList
def absV : Value → Option V
  | .none => some .non
  | .bool b => some (.bl b)
  | .int i _ => some (.int i)
  | .str x _ => some (.str x)
  | .bytes b _ => some (.byt b)
  | .float b _ => some (.flt b)
  | .ref a => some (.ref a)
  | .type n => some (.ty n)
  | _ => none
theorem RelV.abs {x : V} {u : Value} (r : RelV x u) : absV u = some x := by
  cases x with
  | non => cases r; rfl
  | bl _ => cases r; rfl
  | int _ => obtain ⟨t, rfl⟩ := r; rfl
  | str _ => obtain ⟨t, rfl⟩ := r; rfl
  | byt _ => obtain ⟨t, rfl⟩ := r; rfl
  | flt _ => obtain ⟨t, rfl⟩ := r; rfl
  | ref _ => cases r; rfl
  | ty _ => cases r; rfl
theorem RelV.inj {x y : V} {u : Value} (r : RelV x u) (q : RelV y u) : x = y := Option.some.inj (r.abs.symm.trans q.abs)
theorem Vals.inj : ∀ {xs ys : List V} {us : List Value}, Vals xs us → Vals ys us → xs = ys
  | _, _, _, .nil, .nil => rfl
  | _, _, _, .cons r t, .cons r' t' => by rw [r.inj r', Vals.inj t t']
section
variable {X : Cx} {pins : List (Addr × Obj)} {σ : St} {H : Hp} {s : Shared} {a : Addr} {xs ys : List V}
theorem SqL.of {K : PySem.W.Frag} (h : H a = some (.lst xs)) : SqL K H a xs := .inl (.inl h)
theorem SqT.of {K : PySem.W.Frag} (h : H a = some (.tup xs)) : SqT K H a xs := .inl (.inl h)
theorem Inv.list (I : Inv X pins σ H s) (h : SqL X.K H a xs) : ∃ its : List Value, Vals xs its ∧ PlainL s.heap a its.toArray ∧ xs.length ≤ sizeLine := by
  rcases h with h | ⟨o, its, n, hk, hc, hd, hs, hz, r⟩
  · obtain ⟨z, its, n, r, e⟩ := h.ok I.hok
    exact ⟨its, r, ⟨_, n, e, rfl, rfl, rfl⟩, z⟩
  · refine ⟨its.toList, r, ⟨o, n, I.kIn a o hk, hc, hd, by simpa using hs⟩, ?_⟩
    have e := r.length
    simp only [Array.length_toList] at e
    omega
theorem Inv.tuple (I : Inv X pins σ H s) (h : SqT X.K H a xs) : ∃ its : List Value, Vals xs its ∧ IsTup s.heap a its.toArray ∧ xs.length ≤ sizeLine := by
  rcases h with h | ⟨o, its, n, hk, hc, hs, hz, r⟩
  · obtain ⟨z, its, r, p⟩ := h.ok I.hok
    exact ⟨its, r, p, z⟩
  · refine ⟨its.toList, r, ⟨o, I.kIn a o hk, hc, n, by simpa using hs⟩, ?_⟩
    have e := r.length
    simp only [Array.length_toList] at e
    omega
theorem Inv.list_inj (I : Inv X pins σ H s) (h : SqL X.K H a xs) (h' : SqL X.K H a ys) : xs = ys := by
  obtain ⟨its, r, ⟨o, n, e, _, _, d⟩, _⟩ := I.list h
  obtain ⟨its', r', ⟨o', n', e', _, _, d'⟩, _⟩ := I.list h'
  rw [e] at e'; cases e'
  rw [d] at d'
  injection d' with d1 _
  have : its = its' := by simpa using congrArg Array.toList d1
  subst this
  exact r.inj r'
theorem Inv.tuple_inj (I : Inv X pins σ H s) (h : SqT X.K H a xs) (h' : SqT X.K H a ys) : xs = ys := by
  obtain ⟨its, r, ⟨o, e, _, n, d⟩, _⟩ := I.tuple h
  obtain ⟨its', r', ⟨o', e', _, n', d'⟩, _⟩ := I.tuple h'
  rw [e] at e'; cases e'
  rw [d] at d'
  injection d' with d1 _
  have : its = its' := by simpa using congrArg Array.toList d1
  subst this
  exact r.inj r'
end
abbrev Cx.wish (X : Cx) (E : Value → Shared → Prop) : Cx := { X with xe := E }
abbrev Cx.nox (X : Cx) : Cx := X.wish fun _ _ => False
theorem Cx.Ok.wish {X : Cx} (ok : X.Ok) (E : Value → Shared → Prop) : (X.wish E).Ok :=
  ⟨ok.mod, ok.kind, ok.glob, ok.blt, ok.above, ok.inj, ok.has, ok.cab, ok.hd, ok.frames, ok.stk, ok.exf, ok.bs, ok.bsz, ok.noex, ok.exfs, ok.funs, ok.frf⟩
theorem Cx.Ok.unwish {X : Cx} {E : Value → Shared → Prop} (ok : (X.wish E).Ok) : X.Ok :=
  ⟨ok.mod, ok.kind, ok.glob, ok.blt, ok.above, ok.inj, ok.has, ok.cab, ok.hd, ok.frames, ok.stk, ok.exf, ok.bs, ok.bsz, ok.noex, ok.exfs, ok.funs, ok.frf⟩
section
variable {X : Cx} {pins : List (Addr × Obj)} {σ : St} {H : Hp} {s : Shared} {E : Value → Shared → Prop}
theorem Inv.wish (I : Inv X pins σ H s) (E : Value → Shared → Prop) : Inv (X.wish E) pins σ H s := ⟨I.ok.wish E, I.os, I.bare, I.base, I.loc, I.cell, I.free, I.freeC, I.pin, I.hok, I.len⟩
theorem Inv.unwish (I : Inv (X.wish E) pins σ H s) : Inv X pins σ H s := ⟨I.ok.unwish, I.os, I.bare, I.base, I.loc, I.cell, I.free, I.freeC, I.pin, I.hok, I.len⟩
theorem SP.unwish {D : Ends} {f : Flow} {s' : Shared} (h : SP (X.wish E) pins D f s') : SP X pins D f s' := by
  cases f with
  | next => obtain ⟨σ', H', I, q⟩ := h; exact ⟨σ', H', I.unwish, q⟩
  | brk => obtain ⟨σ', H', I, q⟩ := h; exact ⟨σ', H', I.unwish, q⟩
  | cont => obtain ⟨σ', H', I, q⟩ := h; exact ⟨σ', H', I.unwish, q⟩
  | ret u => obtain ⟨v, σ', H', I, r, q⟩ := h; exact ⟨v, σ', H', I.unwish, r, q⟩
theorem PSs.nox {st : List Stmt} {t : TS} (h : PSs X.nox st t) : PSs X st t := fun pins s σ H D I hw =>
  wpAny_mono (h pins s σ H D (I.wish _) hw) (fun _ _ q => q.unwish) fun _ _ z => False.elim z
end
section
variable {X : Cx} {st : Stmt} {rest : List Stmt} {t u : TS} {e : Expr} {te : TE} {pos : Pos}
def tNext : TS := fun D σ H => D.nx σ H
def tSeq (t u : TS) : TS := fun D σ H => t { D with nx := u D } σ H
theorem pss_nil : PSs X [] tNext := fun _ _ σ H _ I h => wpAny_execs_nil ⟨σ, H, I, h⟩
theorem pss_cons (h1 : PS X st t) (h2 : PSs X rest u) : PSs X (st :: rest) (tSeq t u) := by
  intro pins s σ H D I h
  refine wpAny_execs_cons (thn (h1 pins s σ H { D with nx := u D } I h) fun f s1 q => ?_)
  cases f with
  | next =>
    obtain ⟨σ', H', I', q⟩ := q
    exact h2 pins s1 σ' H' D I' q
  | ret v => exact q
  | brk => exact q
  | cont => exact q
theorem pss_one (h1 : PS X st t) : PSs X [st] t := by
  intro pins s σ H D I h
  refine wpAny_execs_cons (thn (h1 pins s σ H D I h) fun f s1 q => ?_)
  cases f with
  | next => exact wpAny_execs_nil q
  | ret v => exact q
  | brk => exact q
  | cont => exact q
theorem Inv.quiet {pins : List (Addr × Obj)} {σ : St} {H : Hp} {s : Shared} (I : Inv X pins σ H s) : interactive X.env = false := by simp [interactive, I.ok.kind]
def tDrop (te : TE) : TS := fun D σ H => te σ H fun _ H1 => D.nx σ H1
theorem ps_expr (he : PE X e te) (hs : swapsWith e none pos.line X.env = pure false := by rfl) : PS X (.Expr e pos) (tDrop te) := by
  intro pins s σ H D I h
  exact wpAny_Expr_any (thn (he pins s σ H _ I h) fun v s1 ⟨x, H1, I1, r1, q1⟩ => ⟨σ, H1, I1, q1⟩) I.quiet hs
def tRet (te : TE) : TS := fun D σ H => te σ H D.rt
theorem ps_ret (he : PE X e te) : PS X (.Return (some e) pos) (tRet te) := by
  intro pins s σ H D I h
  exact wpAny_Return_some (thn (he pins s σ H _ I h) fun v s1 ⟨x, H1, I1, r1, q1⟩ => ⟨x, σ, H1, I1, r1, q1⟩)
def tIfS (c : TT) (t u : TS) : TS := fun D σ H => c σ H fun b H1 => if b = true then t D σ H1 else u D σ H1
theorem ps_if {c : Expr} {a b : List Stmt} {tc : TT} (hc : PT X c tc) (ha : PSs X a t) (hb : PSs X b u) : PS X (.If c a b pos) (tIfS tc t u) := by
  intro pins s σ H D I h
  refine wpAny_If (thn (hc pins s σ H _ I h) fun d s1 ⟨H1, I1, q1⟩ => ?_)
  cases d with
  | true => exact ha pins s1 σ H1 D I1 q1
  | false => exact hb pins s1 σ H1 D I1 q1
def tNever : TS := fun _ _ _ => False
theorem ps_never : PS X st tNever := fun _ _ _ _ _ _ h => h.elim
end
abbrev TG := V → St → Hp → (St → Hp → Prop) → Prop
abbrev TGs := List V → St → Hp → (St → Hp → Prop) → Prop
def PG (X : Cx) (target : Expr) (t : TG) : Prop :=
  ∀ (pins : List (Addr × Obj)) (s : Shared) (σ : St) (H : Hp) (v : V) (u : Value) (Q : St → Hp → Prop), Inv X pins σ H s → RelV v u → t v σ H Q →
    wpAny (model X.prog X.w) X.A (assign target X.env u) (fun _ s' => ∃ σ' H', Inv X pins σ' H' s' ∧ Q σ' H') X.xe s
def PGs (X : Cx) (ts : List Expr) (t : TGs) : Prop :=
  ∀ (pins : List (Addr × Obj)) (s : Shared) (σ : St) (H : Hp) (vs : List V) (us : List Value) (Q : St → Hp → Prop), Inv X pins σ H s → Vals vs us → t vs σ H Q →
    wpAny (model X.prog X.w) X.A (assignInOrder ((assignEach ts X.env).map (·.2)) us) (fun _ s' => ∃ σ' H', Inv X pins σ' H' s' ∧ Q σ' H') X.xe s
abbrev TSet := V → V → V → Hp → (Hp → Prop) → Prop
def PSet (X : Cx) (t : TSet) : Prop :=
  ∀ (pins : List (Addr × Obj)) (s : Shared) (σ : St) (H : Hp) (o i v : V) (ov iv u : Value) (Q : Hp → Prop), Inv X pins σ H s → RelV o ov → RelV i iv → RelV v u → t o i v H Q →
    wpAny (model X.prog X.w) X.A (setItem ov iv u) (fun _ s' => ∃ H', Inv X pins σ H' s' ∧ Q H') X.xe s
section
variable {X : Cx} {pos : Pos}
def gName (i : Nat) : TG := fun v σ H Q => Q (σ.set i (some v)) H
theorem pg_name {i : Nat} {x : Str} (hN : X.N.Nodup) (hi : X.N[i]? = some x) (hx : Loc X.env.scope x) (hf : X.fn x = true ∨ X.env.scope.names.lookup x = some .local := by first | exact .inl rfl | exact .inr rfl | assumption) : PG X (.Name x pos) (gName i) := by
  intro pins s σ H v u Q I r h
  exact wpAny_assign_Name (store_ok I hN hi hx r (fun s' I' => ⟨_, H, I', h⟩) hf)
def gNil : TGs := fun vs σ H Q => vs = [] ∧ Q σ H
inductive gCons (t : TG) (u : TGs) (vs : List V) (σ : St) (H : Hp) (Q : St → Hp → Prop) : Prop
  | mk (v r) (h1 : vs = v :: r) (h2 : t v σ H fun σ' H' => u r σ' H' Q) : gCons t u vs σ H Q
theorem pgs_nil : PGs X [] gNil := by
  intro pins s σ H vs us Q I r h
  obtain ⟨e, h⟩ := h
  subst e
  cases r
  exact assignInOrder_nil ⟨σ, H, I, h⟩
theorem pgs_cons {e : Expr} {es : List Expr} {t : TG} {u : TGs} (h1 : PG X e t) (h2 : PGs X es u)
    (hs : (assignEach (e :: es) X.env).map (·.2) = assign e X.env :: (assignEach es X.env).map (·.2) := by rfl) : PGs X (e :: es) (gCons t u) := by
  intro pins s σ H vs us Q I r h
  obtain ⟨v, vr, e1, h⟩ := h
  subst e1
  cases r with
  | cons r rr =>
    rw [hs]
    refine assignInOrder_cons (thn (h1 pins s σ H _ _ _ I r h) fun _ s1 ⟨σ1, H1, I1, q1⟩ => ?_)
    exact h2 pins s1 σ1 H1 _ _ Q I1 rr q1
inductive gTup (K : PySem.W.Frag) (n : Nat) (t : TGs) (v : V) (σ : St) (H : Hp) (Q : St → Hp → Prop) : Prop
  | mk (a xs) (h1 : v = .ref a) (h2 : SqT K H a xs) (h3 : xs.length = n) (h4 : t xs σ H Q) : gTup K n t v σ H Q
theorem pg_tup {es : List Expr} {k : Nat} {t : TGs} {n : Nat} (hc : X.calm = true) (h : PGs X es t)
    (hn : (assignEach es X.env).length = n := by rfl) (hst : (assignEach es X.env).findIdx? (·.1) = none := by rfl) : PG X (.Tuple es k pos) (gTup X.K n t) := by
  intro pins s σ H v u Q I r hw
  obtain ⟨a, xs, e1, hq, hl, hw⟩ := hw
  subst e1
  cases r
  obtain ⟨its, rv, ht, hz⟩ := I.tuple hq
  refine assign_Tuple_tuple (I.ok.hd hc) ht (by simp [hn, ← hl, rv.length]) hst fun h' hx => ?_
  have I1 : Inv X pins σ H { s with heap := h' } := I.kept (t' := s.toks) fun b o e => hx b o (Nat.ne_of_lt (Heap.lt_size e)) e
  exact h pins _ σ H xs _ Q I1 (by simpa using rv) hw
def gSub (to ti : TE) (t : TSet) : TG := fun v σ H Q => to σ H fun o H1 => ti σ H1 fun i H2 => t o i v H2 fun H3 => Q σ H3
theorem pg_sub {o i : Expr} {to ti : TE} {t : TSet} (ho : PE X o to) (hi : PE X i ti) (hs : PSet X t)
    (ha : ∀ v, assign (.Subscript o i pos) X.env v = (do
      let ov ← holding [v] (eval o X.env)
      let iv ← holding [v, ov] (eval i X.env)
      standAt pos
      holding [v, ov, iv] (setItem ov iv v)
      release [v, ov, iv] []) := by intro _; rfl) : PG X (.Subscript o i pos) (gSub to ti t) := by
  intro pins s σ H v u Q I r h
  rw [ha]
  refine wpAny_bind (wpAny_holding (thn (ho pins s σ H _ I h) fun ov s1 ⟨x, H1, I1, r1, q1⟩ => ?_))
  refine wpAny_bind (wpAny_holding (thn (hi pins s1 σ H1 _ I1 q1) fun iv s2 ⟨y, H2, I2, r2, q2⟩ => ?_))
  refine wpAny_bind (wpAny_standAt (wpAny_bind (wpAny_holding (thn (hs pins s2 σ H2 x y v ov iv u _ I2 r1 r2 r q2) fun _ s3 ⟨H3, I3, q3⟩ => ?_))))
  exact wpAny_release ⟨σ, H3, I3, q3⟩
def tAsg (te : TE) (g : TG) : TS := fun D σ H => te σ H fun x H1 => g x σ H1 D.nx
theorem ps_asg {tg e : Expr} {te : TE} {g : TG} (he : PE X e te) (hg : PG X tg g) (hs : swapsWithSole [tg] e pos.line X.env = pure false := by rfl) (hw : swappedStores [tg] e X.env = pure none := by rfl)
    (h1 : (assignEach [tg] X.env).map (·.2) = [assign tg X.env] := by rfl) : PS X (.Assign [tg] e pos) (tAsg te g) := by
  intro pins s σ H D I h
  refine wpAny_Assign_stores (thn (he pins s σ H _ I h) fun v s1 ⟨x, H1, I1, r1, q1⟩ => ?_) hs hw
  rw [h1]
  exact thn (hg pins s1 σ H1 x v _ I1 r1 q1) fun _ s2 q => q
theorem ps_set {i : Nat} {x : Str} {e : Expr} {te : TE} {pos' : Pos} (hN : X.N.Nodup) (hi : X.N[i]? = some x) (hx : Loc X.env.scope x) (he : PE X e te) (hs : swapsWith e (some (.Name x pos')) pos.line X.env = pure false := by rfl) (hf : X.fn x = true ∨ X.env.scope.names.lookup x = some .local := by first | exact .inl rfl | exact .inr rfl | assumption) :
    PS X (.Assign [.Name x pos'] e pos) (tAsg te (gName i)) := by
  intro pins s σ H D I h
  refine wpAny_Assign_Name (thn (he pins s σ H _ I h) fun v s1 ⟨y, H1, I1, r1, q1⟩ => ?_) hs
  exact store_ok I1 hN hi hx r1 (fun s2 I2 => ⟨_, H1, I2, q1⟩) hf
end
section
variable {X : Cx} {pos : Pos}
def tWhile (c : TT) (tb : TS) : TS := fun D σ H => ∃ W : Nat → St → Hp → Prop, (∃ m, W m σ H) ∧ ∀ m σ H, W m σ H →
  c σ H fun b H1 => if b = true then ∃ N : St → Hp → Prop, (∀ σ' H', N σ' H' → ∃ m', m' < m ∧ W m' σ' H') ∧ tb { D with nx := N, ct := N, bk := D.nx } σ H1 else D.nx σ H1
theorem ps_while {c : Expr} {body : List Stmt} {tc : TT} {tb : TS} (hp : PassesOwn (model X.prog X.w) X.A X.env X.xe) (hc : PT X c tc) (hb : PSs X body tb) : PS X (.While c body [] pos) (tWhile tc tb) := by
  intro pins s σ H D I h
  obtain ⟨W, ⟨m0, w0⟩, turn⟩ := h
  refine wpAny_While (codeAny_whileLoop (fun n s' => ∃ σ' H', Inv X pins σ' H' s' ∧ W n σ' H') ?_ m0 ⟨σ, H, I, w0⟩)
  rintro n s1 ⟨σ1, H1, I1, w1⟩
  refine wpAny_passesOwn hp (thn (hc pins s1 σ1 H1 _ I1 (turn n σ1 H1 w1)) fun b s2 ⟨H2, I2, q2⟩ => ?_)
  cases b with
  | true =>
    obtain ⟨N, hN, q2⟩ := q2
    rw [if_pos rfl]
    refine wpAny_passesOwn hp (thn (hb pins s2 σ1 H2 _ I2 q2) fun f s3 q3 => ?_)
    cases f with
    | next =>
      obtain ⟨σ3, H3, I3, n3⟩ := q3
      obtain ⟨m', hm, w3⟩ := hN σ3 H3 n3
      exact ⟨m', hm, σ3, H3, I3, w3⟩
    | cont =>
      obtain ⟨σ3, H3, I3, n3⟩ := q3
      obtain ⟨m', hm, w3⟩ := hN σ3 H3 n3
      exact ⟨m', hm, σ3, H3, I3, w3⟩
    | brk => exact q3
    | ret v => exact q3
  | false =>
    rw [if_neg Bool.false_ne_true]
    exact wpAny_execs_nil ⟨σ1, H2, I2, q2⟩
end
structure It where
  go : Nat → Hp → Prop
  yld : Nat → Hp → V → Hp → Prop
  stop : Nat → Hp → Prop
def FpOk (X : Cx) (pins : List (Addr × Obj)) (H : Hp) (b : Addr) : Prop :=
  H b = none ∧ b ≠ X.env.locals ∧ b ∉ X.fs ∧ (b ∈ X.ex ∨ X.s₀.heap.objs.size ≤ b) ∧ (∀ x c, X.env.cells.lookup x = some c → c ≠ b) ∧ ∀ p ∈ X.pn ++ pins, p.1 ≠ b
theorem Inv.fpOk {X : Cx} {pins : List (Addr × Obj)} {σ : St} {H H' : Hp} {s : Shared} {b : Addr} (I : Inv X pins σ H s) (hb : s.heap.objs.size ≤ b) (hn : H' b = none) : FpOk X pins H' b := by
  refine ⟨hn, Nat.ne_of_gt (Nat.lt_of_lt_of_le I.lt hb), I.nofs hb, .inr (Nat.le_trans I.sz hb), fun x c e z => ?_, fun p hp z => ?_⟩
  · obtain ⟨v, q⟩ := I.cell x c e
    exact absurd (Nat.lt_of_lt_of_le q.lt (by rw [z]; exact hb)) (Nat.lt_irrefl _)
  · exact absurd (Nat.lt_of_lt_of_le (Heap.lt_size (I.pin p hp).1) (by rw [z]; exact hb)) (Nat.lt_irrefl _)
structure Turn (P : Program) (w : World) (K : PySem.W.Frag) (tg : Expr) (J : It) (fp : List Addr) (it : Addr) (tn : Nat → Heap → Prop) : Prop where
  mem : it ∈ fp
  obj : ∀ i h, tn i h → ∀ b ∈ fp, ∃ o, h.get? b = some o ∧ ∀ v, o.data ≠ .cell v
  keep : ∀ i h h', tn i h → (∀ b ∈ fp, ∀ o, h.get? b = some o → h'.get? b = some o) → tn i h'
  item : ∀ (X : Cx), X.prog = P → X.w = w → X.K = K → X.calm = true → ∀ (i : Nat) (pins : List (Addr × Obj)) (s : Shared) (σ : St) (H : Hp) (E : Value → Shared → Prop), Inv X pins σ H s → (∀ b ∈ fp, FpOk X pins H b) → tn i s.heap → J.go i H →
    wpAny (model P w) X.A (pyNext (.ref it)) (fun r s1 => ∃ u, r = some u ∧
      wpAny (model P w) X.A (letOwnedTupleGo tg (.ref it) u) (fun _ s2 => ∃ x H', Inv X pins σ H' s2 ∧ RelV x u ∧ J.yld i H x H' ∧ tn (i + 1) s2.heap ∧ ∀ b ∈ fp, H' b = none) E s1) E s
  done : ∀ (X : Cx), X.prog = P → X.w = w → X.K = K → X.calm = true → ∀ (i : Nat) (pins : List (Addr × Obj)) (s : Shared) (σ : St) (H : Hp) (E : Value → Shared → Prop), Inv X pins σ H s → (∀ b ∈ fp, FpOk X pins H b) → tn i s.heap → J.stop i H →
    wpAny (model P w) X.A (pyNext (.ref it)) (fun r s1 => r = none ∧ Inv X pins σ H s1) E s
  self : ∀ (A : Around) (i : Nat) (s : Shared) (Q : Value → Shared → Prop) (E : Value → Shared → Prop), tn i s.heap → Q (.ref it) s → wpAny (model P w) A (pyIter (.ref it)) Q E s
abbrev TI := St → Hp → (It → Hp → Prop) → Prop
def PIE (X : Cx) (pins : List (Addr × Obj)) (σ : St) (tg : Expr) (R : It → Hp → Prop) (itv : Value) (s2 : Shared) : Prop :=
  ∃ (it : Addr) (fp : List Addr) (tn : Nat → Heap → Prop) (J : It) (H' : Hp), itv = .ref it ∧ Inv X pins σ H' s2 ∧ Turn X.prog X.w X.K tg J fp it tn ∧ tn 0 s2.heap ∧ (∀ b ∈ fp, FpOk X pins H' b) ∧ R J H'
def PI (X : Cx) (tg iter : Expr) (wi : TI) : Prop :=
  ∀ (pins : List (Addr × Obj)) (s : Shared) (σ : St) (H : Hp) (R : It → Hp → Prop), Inv X pins σ H s → wi σ H R →
    wpAny (model X.prog X.w) X.A (eval iter X.env) (fun v s1 => wpAny (model X.prog X.w) X.A (pyIter v) (PIE X pins σ tg R) X.xe s1) X.xe s
theorem go_of {M : Model} {A : Around} {E : Value → Shared → Prop} {s : Shared} {tg : Expr} {it : Addr} {u : Value} {o : Obj} {n : String} {vs : Array Value} {Q : Unit → Shared → Prop} (ho : s.heap.get? it = some o) (hc : o.cls = .type n) (hd : o.data = .fields vs)
    (hn : ["enumerate", "zip", "dict_itemiterator", "dict_reverseitemiterator", "odict_iterator", "itertools.zip_longest", "itertools.pairwise"].contains n = false) (hQ : Q () s) : wpAny M A (letOwnedTupleGo tg (.ref it) u) Q E s := by
  unfold letOwnedTupleGo
  cases tg <;> first
    | exact wpAny_pure hQ
    | (cases u <;> first
        | exact wpAny_pure hQ
        | (refine wpAny_bind (wpAny_load ho ?_)
           rw [hc, hd]
           show wpAny M A (if (["enumerate", "zip", "dict_itemiterator", "dict_reverseitemiterator", "odict_iterator", "itertools.zip_longest", "itertools.pairwise"].contains n && vs[0]? == some (rawInt _)) = true then _ else _) Q E s
           rw [if_neg (by intro h; rw [hn, Bool.false_and] at h; cases h)]
           exact wpAny_pure hQ))
def Itl (K : PySem.W.Frag) (a : Addr) : It :=
  ⟨fun i H => ∃ xs x, SqL K H a xs ∧ xs[i]? = some x, fun i H x H' => H' = H ∧ ∀ xs, SqL K H a xs → xs[i]? = some x, fun i H => ∃ xs, SqL K H a xs ∧ xs.length ≤ i⟩
def Itt (K : PySem.W.Frag) (a : Addr) : It :=
  ⟨fun i H => ∃ xs x, SqT K H a xs ∧ xs[i]? = some x, fun i H x H' => H' = H ∧ ∀ xs, SqT K H a xs → xs[i]? = some x, fun i H => ∃ xs, SqT K H a xs ∧ xs.length ≤ i⟩
def Itr (lo : Int) (n : Nat) : It := ⟨fun i _ => i < n, fun i H x H' => H' = H ∧ x = .int (lo + i), fun i _ => n ≤ i⟩
theorem turn_list {P : Program} {w : World} {K : PySem.W.Frag} {tg : Expr} (a it : Addr) : Turn P w K tg (Itl K a) [it] it (fun i h => h.IsListIter it a i) where
  mem := by simp
  obj := fun i h st b hb => by
    have e : b = it := by simpa using hb
    subst e
    obtain ⟨o, e, c, d⟩ := st
    exact ⟨o, e, fun v z => by rw [d] at z; cases z⟩
  keep := fun i h h' st k => st.at fun o e => k it (by simp) o e
  item := by
    intro X hP hw hK hc i pins s σ H E I hf st hg
    subst hP hw hK
    obtain ⟨xs, x, hq, hx⟩ := hg
    obtain ⟨its, rv, p, hz⟩ := I.list hq
    obtain ⟨u, hu, ru⟩ := rv.get hx
    obtain ⟨f0, f1, f2, f3, f4, f5⟩ := hf it (by simp)
    refine wpAny_pyNext_list_item st p.isList (x := u) (by simpa using hu) fun h' st' sb => ?_
    have I1 : Inv X pins σ H { s with heap := h' } := I.turned (t' := s.toks) (fun b o hb e => (sb.2 b hb).trans e) f0 f1 f3 f4 f5
    obtain ⟨o, e, c, d⟩ := id st'
    exact ⟨u, rfl, go_of (s := { s with heap := h' }) e c d (by decide) ⟨x, H, I1, ru, ⟨rfl, fun ys hy => by rw [I.list_inj hy hq]; exact hx⟩, st', fun b hb => (hf b hb).1⟩⟩
  done := by
    intro X hP hw hK hc i pins s σ H E I hf st hg
    subst hP hw hK
    obtain ⟨xs, hq, hx⟩ := hg
    obtain ⟨its, rv, p, hz⟩ := I.list hq
    obtain ⟨f0, f1, f2, f3, f4, f5⟩ := hf it (by simp)
    have hl := rv.length
    exact wpAny_pyNext_list_end (I.ok.hd hc) st p.isList (by simp; omega) fun h' eb => ⟨rfl, I.turned (t' := s.toks) (fun b o hb e => eb b o hb e) f0 f1 f3 f4 f5⟩
  self := fun _ _ _ _ _ st h => wpAny_pyIter_listiter st h
theorem turn_tuple {P : Program} {w : World} {K : PySem.W.Frag} {tg : Expr} (a it : Addr) : Turn P w K tg (Itt K a) [it] it (fun i h => h.IsTupleIter it a i) where
  mem := by simp
  obj := fun i h st b hb => by
    have e : b = it := by simpa using hb
    subst e
    obtain ⟨o, e, c, d⟩ := st
    exact ⟨o, e, fun v z => by rw [d] at z; cases z⟩
  keep := fun i h h' st k => st.at fun o e => k it (by simp) o e
  item := by
    intro X hP hw hK hc i pins s σ H E I hf st hg
    subst hP hw hK
    obtain ⟨xs, x, hq, hx⟩ := hg
    obtain ⟨its, rv, p, hz⟩ := I.tuple hq
    obtain ⟨u, hu, ru⟩ := rv.get hx
    obtain ⟨f0, f1, f2, f3, f4, f5⟩ := hf it (by simp)
    refine wpAny_pyNext_tuple_item st (show s.heap.IsTuple a its.toArray from p) (x := u) (by simpa using hu) fun h' st' sb => ?_
    have I1 : Inv X pins σ H { s with heap := h' } := I.turned (t' := s.toks) (fun b o hb e => (sb.2 b hb).trans e) f0 f1 f3 f4 f5
    obtain ⟨o, e, c, d⟩ := id st'
    exact ⟨u, rfl, go_of (s := { s with heap := h' }) e c d (by decide) ⟨x, H, I1, ru, ⟨rfl, fun ys hy => by rw [I.tuple_inj hy hq]; exact hx⟩, st', fun b hb => (hf b hb).1⟩⟩
  done := by
    intro X hP hw hK hc i pins s σ H E I hf st hg
    subst hP hw hK
    obtain ⟨xs, hq, hx⟩ := hg
    obtain ⟨its, rv, p, hz⟩ := I.tuple hq
    obtain ⟨f0, f1, f2, f3, f4, f5⟩ := hf it (by simp)
    have hl := rv.length
    exact wpAny_pyNext_tuple_end (I.ok.hd hc) st (show s.heap.IsTuple a its.toArray from p) (by simp; omega) fun h' eb => ⟨rfl, I.turned (t' := s.toks) (fun b o hb e => eb b o hb e) f0 f1 f3 f4 f5⟩
  self := fun _ _ _ _ _ st h => wpAny_pyIter_tupleiter st h
theorem turn_range {P : Program} {w : World} {K : PySem.W.Frag} {tg : Expr} (it : Addr) (lo : Int) (n : Nat) : Turn P w K tg (Itr lo n) [it] it (fun i h => IsRangeIter h it (lo + (i : Nat) * 1) ((n : Int) - (i : Nat)) 1) where
  mem := by simp
  obj := fun i h st b hb => by
    have e : b = it := by simpa using hb
    subst e
    exact ⟨_, st, fun v z => by
      have z' : Data.fields _ = Data.cell v := z
      cases z'⟩
  keep := fun i h h' st k => k it (by simp) _ st
  item := by
    intro X hP hw hK hc i pins s σ H E I hf st hg
    subst hP hw hK
    obtain ⟨f0, f1, f2, f3, f4, f5⟩ := hf it (by simp)
    have W := Walks.range (prog := X.prog) (w := X.w) (I.ok.hd hc) it lo 1 n
    refine W.item i s _ _ hg st fun v h' tk hv st' kk => ?_
    obtain ⟨t, rfl⟩ := hv
    have I1 : Inv X pins σ H { s with heap := h', toks := tk } := I.turned (fun b o hb e => kk b o (by simpa using hb) e) f0 f1 f3 f4 f5
    refine ⟨_, rfl, go_of (s := { s with heap := h', toks := tk }) (n := "range_iterator") st' rfl rfl (by decide) ⟨.int (lo + i), H, I1, ⟨t, ?_⟩, ⟨rfl, rfl⟩, st', fun b hb => (hf b hb).1⟩⟩
    rw [Int.mul_one]
  done := by
    intro X hP hw hK hc i pins s σ H E I hf st hg
    subst hP hw hK
    obtain ⟨f0, f1, f2, f3, f4, f5⟩ := hf it (by simp)
    exact wpAny_pyNext_range_end (I.ok.hd hc) st (by have : n ≤ i := hg; omega) fun h' eb => ⟨rfl, I.turned (t' := s.toks) (fun b o hb e => eb b o hb e) f0 f1 f3 f4 f5⟩
  self := fun _ _ _ _ _ st h => wpAny_pyIter_rangeiter st h
end L2
namespace L2
open PySem PySem.Spec PyProof.Rows
section
variable {X : Cx} {tg : Expr}
def iList (K : PySem.W.Frag) (tl : TE) : TI := fun σ H R => tl σ H fun x H1 => ∃ a, x = .ref a ∧ (∃ xs, SqL K H1 a xs) ∧ R (Itl K a) H1
def iTup (K : PySem.W.Frag) (tl : TE) : TI := fun σ H R => tl σ H fun x H1 => ∃ a, x = .ref a ∧ (∃ xs, SqT K H1 a xs) ∧ R (Itt K a) H1
theorem pi_list {l : Expr} {tl : TE} (hl : PE X l tl) : PI X tg l (iList X.K tl) := by
  intro pins s σ H R I h
  refine thn (hl pins s σ H _ I h) fun v s1 ⟨x, H1, I1, r1, q1⟩ => ?_
  obtain ⟨a, e, ⟨xs, hq⟩, q⟩ := q1
  subst e
  cases r1
  obtain ⟨its, rv, p, hz⟩ := I1.list hq
  refine wpAny_pyIter_list p.isList ?_
  refine ⟨s1.heap.objs.size, [s1.heap.objs.size], _, _, H1, rfl, I1.kept (t' := s1.toks) fun b o e => Heap.get?_push_of_some _ e, turn_list a _, ⟨_, Heap.get?_push_size _ rfl, rfl, rfl⟩, fun b hb => ?_, q⟩
  have e : b = s1.heap.objs.size := by simpa using hb
  subst e
  exact I1.fpOk (Nat.le_refl _) (I1.hok.fresh (Nat.le_refl _))
theorem pi_tup {l : Expr} {tl : TE} (hl : PE X l tl) : PI X tg l (iTup X.K tl) := by
  intro pins s σ H R I h
  refine thn (hl pins s σ H _ I h) fun v s1 ⟨x, H1, I1, r1, q1⟩ => ?_
  obtain ⟨a, e, ⟨xs, hq⟩, q⟩ := q1
  subst e
  cases r1
  obtain ⟨its, rv, p, hz⟩ := I1.tuple hq
  refine wpAny_pyIter_tuple (show s1.heap.IsTuple a its.toArray from p) ?_
  refine ⟨s1.heap.objs.size, [s1.heap.objs.size], _, _, H1, rfl, I1.kept (t' := s1.toks) fun b o e => Heap.get?_push_of_some _ e, turn_tuple a _, ⟨_, Heap.get?_push_size _ rfl, rfl, rfl⟩, fun b hb => ?_, q⟩
  have e : b = s1.heap.objs.size := by simpa using hb
  subst e
  exact I1.fpOk (Nat.le_refl _) (I1.hok.fresh (Nat.le_refl _))
theorem range_it {pins : List (Addr × Obj)} {σ : St} {H : Hp} {s : Shared} {R : It → Hp → Prop} {E : Value → Shared → Prop} {lo hi : Int} {t u v : Tok} {tk : Nat} (I : Inv X pins σ H s) (h1 : -(2 ^ 62) ≤ lo) (h2 : lo < 2 ^ 62) (h3 : -(2 ^ 62) ≤ hi) (h4 : hi < 2 ^ 62)
    (q : R (Itr lo (hi - lo).toNat) H) : wpAny (model X.prog X.w) X.A (pyIter (.ref s.heap.objs.size)) (PIE X pins σ tg R) E { s with heap := s.heap.push { cls := .type "range", data := .fields #[.int lo t, .int hi u, .int 1 v] }, toks := tk } := by
  refine wpAny_pyIter_range (IsRange.new ..) (small_one h1 h2 h3 h4) ?_
  have I1 : Inv X pins σ H { s with heap := s.heap.push { cls := .type "range", data := .fields #[.int lo t, .int hi u, .int 1 v] }, toks := tk } := I.kept fun b o e => Heap.get?_push_of_some _ e
  refine ⟨(s.heap.push { cls := .type "range", data := .fields #[.int lo t, .int hi u, .int 1 v] }).objs.size, [(s.heap.push { cls := .type "range", data := .fields #[.int lo t, .int hi u, .int 1 v] }).objs.size], _, _, H, rfl,
    I1.kept (t' := tk) fun b o e => Heap.get?_push_of_some _ e, turn_range _ lo (hi - lo).toNat, ?_, fun b hb => ?_, q⟩
  · have e1 : lo + ((0 : Nat) : Int) * 1 = lo := by simp
    have e2 : (((hi - lo).toNat : Nat) : Int) - ((0 : Nat) : Int) = Builtin.Range.rangeSize lo hi 1 := by rw [rangeSize_one]; split <;> omega
    show IsRangeIter _ _ (lo + ((0 : Nat) : Int) * 1) ((((hi - lo).toNat : Nat) : Int) - ((0 : Nat) : Int)) 1
    rw [e1, e2]
    exact Heap.get?_push_size _ rfl
  · have e : b = (s.heap.push { cls := .type "range", data := .fields #[.int lo t, .int hi u, .int 1 v] }).objs.size := by simpa using hb
    subst e
    exact I1.fpOk (Nat.le_refl _) (I1.hok.fresh (Nat.le_refl _))
def iRng1 (ta : TA) : TI := fun σ H R => ta σ H fun vs H1 => ∃ j : Int, vs = [.int j] ∧ -(2 ^ 62) ≤ j ∧ j < 2 ^ 62 ∧ R (Itr 0 j.toNat) H1
theorem pi_range1 {a : Expr} {ta : TA} {p pos : Pos} (hg : Gl X "range") (hm : X.mg "range" = none) (ha : PA X [a] ta) (hs : starEach [a] X.env = [(false, eval a X.env)] := by rfl) : PI X tg (.Call (.Name "range" p) [a] [] pos) (iRng1 ta) := by
  intro pins s σ H R I h
  refine Call_ (ld_blt I hg hm boot_range (PyProof.Rows.callWith_type1 (thn (ha pos pins s σ H _ I h) fun us s1 ⟨vs, H1, I1, r1, q1⟩ => ?_) hs rfl))
  obtain ⟨j, e, q1, q2, q⟩ := q1
  subst e
  cases r1 with
  | cons r rr =>
    cases rr
    obtain ⟨t, rfl⟩ := r
    exact call_range_1 (range_it I1 (by omega) (by omega) q1 q2 (by simpa using q))
def tFor (wi : TI) (g : TG) (tb : TS) : TS := fun D σ H => wi σ H fun J H1 => ∃ W : Nat → Nat → St → Hp → Prop, (∃ m, W 0 m σ H1) ∧ ∀ i m σ H, W i m σ H →
  (J.stop i H ∧ D.nx σ H) ∨ (J.go i H ∧ ∃ N : St → Hp → Prop, (∀ σ' H', N σ' H' → ∃ m', m' < m ∧ W (i + 1) m' σ' H') ∧ ∀ x H', J.yld i H x H' → g x σ H' fun σ2 H2 => tb { D with nx := N, ct := N, bk := D.nx } σ2 H2)
def pinsAt (fp : List Addr) (h : Heap) : List (Addr × Obj) := fp.filterMap fun b => (h.get? b).map fun o => (b, o)
theorem mem_pinsAt {fp : List Addr} {h : Heap} {b : Addr} {o : Obj} (hb : b ∈ fp) (e : h.get? b = some o) : (b, o) ∈ pinsAt fp h := List.mem_filterMap.mpr ⟨b, hb, by rw [e]; rfl⟩
theorem of_pinsAt {fp : List Addr} {h : Heap} {p : Addr × Obj} (hp : p ∈ pinsAt fp h) : p.1 ∈ fp ∧ h.get? p.1 = some p.2 := by
  obtain ⟨b, hb, e⟩ := List.mem_filterMap.mp hp
  cases q : h.get? b with
  | none => rw [q] at e; cases e
  | some o =>
    rw [q] at e
    have e' : (b, o) = p := Option.some.inj e
    subst e'
    exact ⟨hb, q⟩
theorem Inv.pinned {pins : List (Addr × Obj)} {σ : St} {H : Hp} {s : Shared} {fp : List Addr} (I : Inv X pins σ H s) (hf : ∀ b ∈ fp, FpOk X pins H b) (ho : ∀ b ∈ fp, ∃ o, s.heap.get? b = some o ∧ ∀ v, o.data ≠ .cell v) : Inv X (pins ++ pinsAt fp s.heap) σ H s :=
  I.pins_of fun p hp => (List.mem_append.mp hp).elim (fun z => I.pin p (List.mem_append_right _ z)) fun z => by
    obtain ⟨hb, e⟩ := of_pinsAt z
    obtain ⟨f0, f1, f2, _⟩ := hf p.1 hb
    obtain ⟨o, e', d⟩ := ho p.1 hb
    rw [e] at e'; cases e'
    exact ⟨e, f0, f1, f2, d⟩
theorem Inv.unpinned {pins pl : List (Addr × Obj)} {σ : St} {H : Hp} {s : Shared} (I : Inv X (pins ++ pl) σ H s) : Inv X pins σ H s := I.pins_of fun p hp => I.pin p (List.mem_append_right _ (List.mem_append_left _ hp))
theorem ps_for {iter : Expr} {body : List Stmt} {wi : TI} {g : TG} {tb : TS} {pos : Pos} (hp : PassesOwn (model X.prog X.w) X.A X.env X.xe) (hc : X.calm = true) (hi : PI X tg iter wi) (hg : PG X tg g) (hb : PSs X body tb)
    (hs : ∀ x, foldedSetIterable iter X.env x = pure x := by intro _; rfl) : PS X (.For tg iter body [] pos) (tFor wi g tb) := by
  intro pins s σ H D I h
  refine wpAny_For (thn (hi pins s σ H _ I h) fun v s1 h1 => thn h1 fun itv s2 h2 => ?_) hs
  obtain ⟨it, fp, tn, J, H2, e, I2, T, st2, f2, W, ⟨m0, w0⟩, turn⟩ := h2
  subst e
  have stat : ∀ {H' : Hp}, (∀ b ∈ fp, H' b = none) → ∀ b ∈ fp, FpOk X pins H' b := fun hn b hb => ⟨hn b hb, (f2 b hb).2⟩
  refine codeAny_forLoop_any (fun n s' => ∃ i σ' H', Inv X pins σ' H' s' ∧ tn i s'.heap ∧ (∀ b ∈ fp, H' b = none) ∧ W i n σ' H') ?_ m0 ⟨0, σ, H2, I2, st2, fun b hb => (f2 b hb).1, w0⟩
  rintro n s3 ⟨i, σ3, H3, I3, st3, fr3, w3⟩
  rcases turn i n σ3 H3 w3 with ⟨stop, qn⟩ | ⟨go, N, hN, step⟩
  · refine wpAny_passesOwn hp (thn (T.done X rfl rfl rfl hc i pins s3 σ3 H3 X.xe I3 (stat fr3) st3 stop) fun r s4 ⟨hr, I4⟩ => ?_)
    subst hr
    exact wpAny_execs_nil ⟨σ3, H3, I4, qn⟩
  · refine wpAny_passesOwn hp (thn (T.item X rfl rfl rfl hc i pins s3 σ3 H3 X.xe I3 (stat fr3) st3 go) fun r s4 ⟨u, hr, h4⟩ => ?_)
    subst hr
    refine wpAny_passesOwn hp (thn h4 fun _ s5 ⟨x, H5, I5, r5, y5, st5, fr5⟩ => ?_)
    have I5' := I5.pinned (stat fr5) (T.obj _ _ st5)
    refine wpAny_passesOwn hp (thn (hg _ s5 σ3 H5 x u _ I5' r5 (step x H5 y5)) fun _ s6 ⟨σ6, H6, I6, q6⟩ => ?_)
    refine wpAny_passesOwn hp (thn (hb _ s6 σ6 H6 _ I6 q6) fun f s7 q7 => ?_)
    have again : ∀ {σ7 : St} {H7 : Hp}, Inv X (pins ++ pinsAt fp s5.heap) σ7 H7 s7 → N σ7 H7 → ∃ m, m < n ∧ ∃ i σ' H', Inv X pins σ' H' s7 ∧ tn i s7.heap ∧ (∀ b ∈ fp, H' b = none) ∧ W i m σ' H' := fun {σ7 H7} I7 n7 => by
      obtain ⟨m', hm, w7⟩ := hN σ7 H7 n7
      refine ⟨m', hm, i + 1, σ7, H7, I7.unpinned, T.keep _ _ _ st5 fun b hb o e => (I7.pin (b, o) (List.mem_append_right _ (List.mem_append_right _ (mem_pinsAt hb e)))).1, fun b hb => ?_, w7⟩
      obtain ⟨o, e, d⟩ := T.obj _ _ st5 b hb
      exact (I7.pin (b, o) (List.mem_append_right _ (List.mem_append_right _ (mem_pinsAt hb e)))).2.1
    cases f with
    | next => obtain ⟨σ7, H7, I7, n7⟩ := q7; exact again I7 n7
    | cont => obtain ⟨σ7, H7, I7, n7⟩ := q7; exact again I7 n7
    | brk => obtain ⟨σ7, H7, I7, q7⟩ := q7; exact ⟨σ7, H7, I7.unpinned, q7⟩
    | ret v => obtain ⟨x7, σ7, H7, I7, r7, q7⟩ := q7; exact ⟨x7, σ7, H7, I7.unpinned, r7, q7⟩
end
theorem for_list {K : PySem.W.Frag} {a : Addr} {xs : List V} {g : TG} {tb : TS} {D : Ends} {σ : St} {H : Hp} (Pv : Nat → St → Hp → Prop) (h0 : Pv 0 σ H) (hl : ∀ i σ H, i ≤ xs.length → Pv i σ H → SqL K H a xs)
    (hs : ∀ i x σ H, xs[i]? = some x → Pv i σ H → g x σ H fun σ2 H2 => tb { D with nx := Pv (i + 1), ct := Pv (i + 1), bk := D.nx } σ2 H2) (hd : ∀ σ H, Pv xs.length σ H → D.nx σ H) :
    ∃ W : Nat → Nat → St → Hp → Prop, (∃ m, W 0 m σ H) ∧ ∀ i m σ H, W i m σ H →
      ((Itl K a).stop i H ∧ D.nx σ H) ∨ ((Itl K a).go i H ∧ ∃ N : St → Hp → Prop, (∀ σ' H', N σ' H' → ∃ m', m' < m ∧ W (i + 1) m' σ' H') ∧ ∀ x H', (Itl K a).yld i H x H' → g x σ H' fun σ2 H2 => tb { D with nx := N, ct := N, bk := D.nx } σ2 H2) := by
  refine ⟨fun i m σ H => m = xs.length - i ∧ i ≤ xs.length ∧ Pv i σ H, ⟨xs.length, by simp, Nat.zero_le _, h0⟩, ?_⟩
  rintro i m σ H ⟨rfl, hi, p⟩
  have q := hl i σ H hi p
  by_cases hlt : i < xs.length
  · refine .inr ⟨⟨xs, xs[i], q, by simp [hlt]⟩, Pv (i + 1), fun σ' H' p' => ⟨xs.length - (i + 1), by omega, rfl, hlt, p'⟩, fun x H' y => ?_⟩
    obtain ⟨e, y⟩ := y
    subst e
    exact hs i x σ _ (y xs q) p
  · have e : i = xs.length := by omega
    subst e
    exact .inl ⟨⟨xs, q, Nat.le_refl _⟩, hd σ H p⟩
theorem for_tup {K : PySem.W.Frag} {a : Addr} {xs : List V} {g : TG} {tb : TS} {D : Ends} {σ : St} {H : Hp} (Pv : Nat → St → Hp → Prop) (h0 : Pv 0 σ H) (hl : ∀ i σ H, i ≤ xs.length → Pv i σ H → SqT K H a xs)
    (hs : ∀ i x σ H, xs[i]? = some x → Pv i σ H → g x σ H fun σ2 H2 => tb { D with nx := Pv (i + 1), ct := Pv (i + 1), bk := D.nx } σ2 H2) (hd : ∀ σ H, Pv xs.length σ H → D.nx σ H) :
    ∃ W : Nat → Nat → St → Hp → Prop, (∃ m, W 0 m σ H) ∧ ∀ i m σ H, W i m σ H →
      ((Itt K a).stop i H ∧ D.nx σ H) ∨ ((Itt K a).go i H ∧ ∃ N : St → Hp → Prop, (∀ σ' H', N σ' H' → ∃ m', m' < m ∧ W (i + 1) m' σ' H') ∧ ∀ x H', (Itt K a).yld i H x H' → g x σ H' fun σ2 H2 => tb { D with nx := N, ct := N, bk := D.nx } σ2 H2) := by
  refine ⟨fun i m σ H => m = xs.length - i ∧ i ≤ xs.length ∧ Pv i σ H, ⟨xs.length, by simp, Nat.zero_le _, h0⟩, ?_⟩
  rintro i m σ H ⟨rfl, hi, p⟩
  have q := hl i σ H hi p
  by_cases hlt : i < xs.length
  · refine .inr ⟨⟨xs, xs[i], q, by simp [hlt]⟩, Pv (i + 1), fun σ' H' p' => ⟨xs.length - (i + 1), by omega, rfl, hlt, p'⟩, fun x H' y => ?_⟩
    obtain ⟨e, y⟩ := y
    subst e
    exact hs i x σ _ (y xs q) p
  · have e : i = xs.length := by omega
    subst e
    exact .inl ⟨⟨xs, q, Nat.le_refl _⟩, hd σ H p⟩
theorem for_range {lo : Int} {n : Nat} {g : TG} {tb : TS} {D : Ends} {σ : St} {H : Hp} (Pv : Nat → St → Hp → Prop) (h0 : Pv 0 σ H)
    (hs : ∀ i σ H, i < n → Pv i σ H → g (.int (lo + i)) σ H fun σ2 H2 => tb { D with nx := Pv (i + 1), ct := Pv (i + 1), bk := D.nx } σ2 H2) (hd : ∀ σ H, Pv n σ H → D.nx σ H) :
    ∃ W : Nat → Nat → St → Hp → Prop, (∃ m, W 0 m σ H) ∧ ∀ i m σ H, W i m σ H →
      ((Itr lo n).stop i H ∧ D.nx σ H) ∨ ((Itr lo n).go i H ∧ ∃ N : St → Hp → Prop, (∀ σ' H', N σ' H' → ∃ m', m' < m ∧ W (i + 1) m' σ' H') ∧ ∀ x H', (Itr lo n).yld i H x H' → g x σ H' fun σ2 H2 => tb { D with nx := N, ct := N, bk := D.nx } σ2 H2) := by
  refine ⟨fun i m σ H => m = n - i ∧ i ≤ n ∧ Pv i σ H, ⟨n, by simp, Nat.zero_le _, h0⟩, ?_⟩
  rintro i m σ H ⟨rfl, hi, p⟩
  by_cases hlt : i < n
  · refine .inr ⟨hlt, Pv (i + 1), fun σ' H' p' => ⟨n - (i + 1), by omega, rfl, hlt, p'⟩, fun x H' y => ?_⟩
    obtain ⟨e, y⟩ := y
    subst e y
    exact hs i σ _ hlt p
  · have e : i = n := by omega
    subst e
    exact .inl ⟨Nat.le_refl _, hd σ H p⟩
end L2
namespace L2
open PySem PySem.Spec PyProof.Rows
abbrev R2 := V → V → Hp → VK → Prop
def OpR (X : Cx) (f : Value → Value → Sem Value) (r : R2) : Prop :=
  ∀ (pins : List (Addr × Obj)) (s : Shared) (σ : St) (H : Hp) (x y : V) (v u : Value) (Q : VK), Inv X pins σ H s → RelV x v → RelV y u → r x y H Q →
    wpAny (model X.prog X.w) X.A (f v u) (EP X pins σ Q) X.xe s
def UnR (X : Cx) (f : Value → Sem Value) (r : V → Hp → VK → Prop) : Prop :=
  ∀ (pins : List (Addr × Obj)) (s : Shared) (σ : St) (H : Hp) (x : V) (v : Value) (Q : VK), Inv X pins σ H s → RelV x v → r x H Q →
    wpAny (model X.prog X.w) X.A (f v) (EP X pins σ Q) X.xe s
def CallR (X : Cx) (f : Value) (r : List V → Hp → VK → Prop) : Prop :=
  ∀ (pins : List (Addr × Obj)) (s : Shared) (σ : St) (H : Hp) (xs : List V) (us : List Value) (Q : VK), Inv X pins σ H s → Vals xs us → r xs H Q →
    wpAny (model X.prog X.w) X.A (call f us) (EP X pins σ Q) X.xe s
def tOp (r : R2) (ta tb : TE) : TE := fun σ H Q => ta σ H fun x H1 => tb σ H1 fun y H2 => r x y H2 Q
def tUn (r : V → Hp → VK → Prop) (ta : TE) : TE := fun σ H Q => ta σ H fun x H1 => r x H1 Q
inductive rI (C : Int → Int → Prop) (g : Int → Int → V) (x : V) (y : V) (H : Hp) (Q : VK) : Prop
  | mk (i j) (h1 : x = .int i) (h2 : y = .int j) (h3 : C i j) (h4 : Q (g i j) H) : rI C g x y H Q
inductive rI0 (g : Int → Int → V) (x : V) (y : V) (H : Hp) (Q : VK) : Prop
  | mk (i j) (h1 : x = .int i) (h2 : y = .int j) (h3 : Q (g i j) H) : rI0 g x y H Q
def rU (g : Int → V) : V → Hp → VK → Prop := fun x H Q => ∃ i, x = .int i ∧ Q (g i) H
section
variable {X : Cx} {a b c : Expr} {ta tb tc : TE} {pos : Pos}
theorem binT (ha : PE X a ta) (hb : PE X b tb) {pins : List (Addr × Obj)} {s : Shared} {σ : St} {H : Hp} {R : V → V → Hp → Prop} (I : Inv X pins σ H s)
    (h : ta σ H fun x H1 => tb σ H1 fun y H2 => R x y H2) {Q : Value → Shared → Prop} {f : Value → Value → Sem Value}
    (hf : ∀ v u s2 x y H2, Inv X pins σ H2 s2 → RelV x v → RelV y u → R x y H2 → wpAny (model X.prog X.w) X.A (f v u) Q X.xe s2) :
    wpAny (model X.prog X.w) X.A (eval a X.env) (fun v s₁ => wpAny (model X.prog X.w) X.A (eval b X.env) (fun u s₂ => wpAny (model X.prog X.w) X.A (f v u) Q X.xe s₂) X.xe s₁) X.xe s := by
  refine thn (ha pins s σ H _ I h) fun v s1 ⟨x, H1, I1, r1, q1⟩ => ?_
  refine thn (hb pins s1 σ H1 _ I1 q1) fun u s2 ⟨y, H2, I2, r2, q2⟩ => ?_
  exact hf v u s2 x y H2 I2 r1 r2 q2
theorem pe_op {op : Operator} {r : R2} (ho : OpR X (binaryOp op) r) (ha : PE X a ta) (hb : PE X b tb) : PE X (.BinOp a op b pos) (tOp r ta tb) := by
  intro pins s σ H Q I h
  exact wpAny_BinOp (binT ha hb I h fun v u s2 x y H2 I2 rx ry q => ho pins s2 σ H2 x y v u Q I2 rx ry q)
theorem pe_un {op : UnaryOp} {r : V → Hp → VK → Prop} (ho : UnR X (unaryOp op) r) (ha : PE X a ta) : PE X (.UnaryOp op a pos) (tUn r ta) := by
  intro pins s σ H Q I h
  exact UnaryOp_ (thn (ha pins s σ H _ I h) fun v s1 ⟨x, H1, I1, r1, q1⟩ => ho pins s1 σ H1 x v Q I1 r1 q1)
theorem opI {f : Value → Value → Sem Value} {C : Int → Int → Prop} {g : Int → Int → Int}
    (rule : ∀ (i j : Int) (t u : Tok) (s : Shared) (Q : Value → Shared → Prop) (E : Value → Shared → Prop), C i j → Q (.int (g i j) s.toks) { s with toks := s.toks + 1 } → wpAny (model X.prog X.w) X.A (f (.int i t) (.int j u)) Q E s) :
    OpR X f (rI C fun i j => .int (g i j)) := by
  intro pins s σ H x y v u Q I rx ry h
  obtain ⟨i, j, rfl, rfl, hc, q⟩ := h
  obtain ⟨t, rfl⟩ := rx
  obtain ⟨t', rfl⟩ := ry
  exact rule i j t t' s _ _ hc ⟨.int (g i j), H, I.tok _, ⟨_, rfl⟩, q⟩
theorem opI0 {f : Value → Value → Sem Value} {g : Int → Int → Int}
    (rule : ∀ (i j : Int) (t u : Tok) (s : Shared) (Q : Value → Shared → Prop) (E : Value → Shared → Prop), Q (.int (g i j) s.toks) { s with toks := s.toks + 1 } → wpAny (model X.prog X.w) X.A (f (.int i t) (.int j u)) Q E s) :
    OpR X f (rI0 fun i j => .int (g i j)) := by
  intro pins s σ H x y v u Q I rx ry h
  obtain ⟨i, j, rfl, rfl, q⟩ := h
  obtain ⟨t, rfl⟩ := rx
  obtain ⟨t', rfl⟩ := ry
  exact rule i j t t' s _ _ ⟨.int (g i j), H, I.tok _, ⟨_, rfl⟩, q⟩
theorem opB0 {f : Value → Value → Sem Value} {g : Int → Int → Bool}
    (rule : ∀ (i j : Int) (t u : Tok) (s : Shared) (Q : Value → Shared → Prop) (E : Value → Shared → Prop), Q (.bool (g i j)) s → wpAny (model X.prog X.w) X.A (f (.int i t) (.int j u)) Q E s) :
    OpR X f (rI0 fun i j => .bl (g i j)) := by
  intro pins s σ H x y v u Q I rx ry h
  obtain ⟨i, j, rfl, rfl, q⟩ := h
  obtain ⟨t, rfl⟩ := rx
  obtain ⟨t', rfl⟩ := ry
  exact rule i j t t' s _ _ ⟨.bl (g i j), H, I, rfl, q⟩
def CPow (i j : Int) : Prop := 0 ≤ j ∧ j ≤ 1000000 ∧ i.natAbs < 2 ^ 64
def CMul (i j : Int) : Prop := (-(2 ^ 64) < i ∧ i < 2 ^ 64) ∨ (-(2 ^ 64) < j ∧ j < 2 ^ 64)
theorem CMul.ok {i j : Int} (h : CMul i j) : IntMulOk i j := by
  rcases h with ⟨h1, h2⟩ | ⟨h1, h2⟩
  · exact .of_left (intBits_le_64 h1 h2)
  · exact .of_right (intBits_le_64 h1 h2)
theorem op_add : OpR X (binaryOp .Add) (rI0 fun i j => .int (i + j)) := opI0 fun _ _ _ _ _ _ _ q => add_int q
theorem op_sub : OpR X (binaryOp .Sub) (rI0 fun i j => .int (i - j)) := opI0 fun _ _ _ _ _ _ _ q => sub_int q
theorem op_mul : OpR X (binaryOp .Mult) (rI CMul fun i j => .int (i * j)) := opI fun _ _ _ _ _ _ _ hc q => mul_int q hc.ok
theorem op_mod : OpR X (binaryOp .Mod) (rI (fun _ j => 0 < j) fun i j => .int (i % j)) := opI fun i j _ _ _ _ _ hc q => by
  have h1 : (0 : Int) < j := hc
  exact mod_int' (by omega) (by rw [Int.fmod_eq_emod_of_nonneg i (by omega)]; exact q)
theorem op_pow : OpR X (binaryOp .Pow) (rI CPow fun i j => .int (i ^ j.toNat)) := opI fun _ _ _ _ _ _ _ hc q => pow_int_small hc.1 hc.2.1 hc.2.2 q
theorem unI {f : Value → Sem Value} {g : Int → Int}
    (rule : ∀ (i : Int) (t : Tok) (s : Shared) (Q : Value → Shared → Prop) (E : Value → Shared → Prop), Q (.int (g i) s.toks) { s with toks := s.toks + 1 } → wpAny (model X.prog X.w) X.A (f (.int i t)) Q E s) :
    UnR X f (rU fun i => .int (g i)) := by
  intro pins s σ H x v Q I rx h
  obtain ⟨i, rfl, q⟩ := h
  obtain ⟨t, rfl⟩ := rx
  exact rule i t s _ _ ⟨.int (g i), H, I.tok _, ⟨_, rfl⟩, q⟩
theorem un_neg : UnR X (unaryOp .USub) (rU fun i => .int (-i)) := unI fun _ _ _ _ _ q => neg_int q
end
def scal : V → V → Bool
  | .non, .non => true | .non, .int _ => true | .int _, .non => true | .non, .bl _ => true | .bl _, .non => true | .non, .str _ => true | .str _, .non => true
  | .int _, .int _ => true | .bl _, .bl _ => true | .str _, .str _ => true | .byt _, .byt _ => true
  | .int _, .str _ => true | .str _, .int _ => true | .bl _, .str _ => true | .str _, .bl _ => true
  | _, _ => false
def rEq : R2 := fun x y H Q => scal x y = true ∧ Q (.bl (decide (x = y))) H
def rNe : R2 := fun x y H Q => scal x y = true ∧ Q (.bl (!decide (x = y))) H
theorem dec_int {i j : Int} : decide (V.int i = V.int j) = (i == j) := by
  rw [Bool.eq_iff_iff]
  simp
theorem dec_bl {i j : Bool} : decide (V.bl i = V.bl j) = (i == j) := by
  rw [Bool.eq_iff_iff]
  simp
theorem dec_str {i j : Str} : decide (V.str i = V.str j) = (i == j) := by
  rw [Bool.eq_iff_iff]
  simp
theorem dec_byt {i j : Array UInt8} : decide (V.byt i = V.byt j) = (i.toList == j.toList) := by
  rw [Bool.eq_iff_iff]
  cases i
  cases j
  simp
section
variable {X : Cx} {a b c : Expr} {ta tb tc : TE} {pos : Pos}
theorem fin_bl {pins : List (Addr × Obj)} {σ : St} {H : Hp} {s : Shared} {Q : VK} {k k' : Bool} (I : Inv X pins σ H s) (q : Q (.bl k) H) (e : k = k') : EP X pins σ Q (.bool k') s := by
  subst e
  exact ⟨.bl k, H, I, rfl, q⟩
theorem op_eq : OpR X (compareOp .Eq) rEq := by
  intro pins s σ H x y v u Q I rx ry h
  obtain ⟨hs, q⟩ := h
  cases x with
  | non =>
    cases rx
    cases y with
    | non => cases ry; exact PySem.EqNone.eq_none_none (fin_bl I q (by simp))
    | bl j => cases ry; exact PySem.EqNone.eq_none_bool (fin_bl I q (by simp))
    | int j => obtain ⟨t', rfl⟩ := ry; exact PySem.EqNone.eq_none_int (fin_bl I q (by simp))
    | str j => obtain ⟨t', rfl⟩ := ry; exact PySem.EqNone.eq_none_str (fin_bl I q (by simp))
    | _ => exact absurd (show false = true from hs) Bool.false_ne_true
  | bl i =>
    cases rx
    cases y with
    | non => cases ry; exact PySem.EqNone.eq_bool_none (fin_bl I q (by simp))
    | bl j => cases ry; exact eq_bool (fin_bl I q dec_bl)
    | str j => obtain ⟨t', rfl⟩ := ry; exact PySem.EqMixed.eq_bool_str (fin_bl I q (by simp))
    | _ => exact absurd (show false = true from hs) Bool.false_ne_true
  | int i =>
    obtain ⟨t, rfl⟩ := rx
    cases y with
    | non => cases ry; exact PySem.EqNone.eq_int_none (fin_bl I q (by simp))
    | int j => obtain ⟨t', rfl⟩ := ry; exact eq_int (fin_bl I q dec_int)
    | str j => obtain ⟨t', rfl⟩ := ry; exact PySem.EqMixed.eq_int_str (fin_bl I q (by simp))
    | _ => exact absurd (show false = true from hs) Bool.false_ne_true
  | str i =>
    obtain ⟨t, rfl⟩ := rx
    cases y with
    | non => cases ry; exact PySem.EqNone.eq_str_none (fin_bl I q (by simp))
    | bl j => cases ry; exact PySem.EqMixed.eq_str_bool (fin_bl I q (by simp))
    | int j => obtain ⟨t', rfl⟩ := ry; exact PySem.EqMixed.eq_str_int (fin_bl I q (by simp))
    | str j => obtain ⟨t', rfl⟩ := ry; exact eq_str (fin_bl I q dec_str)
    | _ => exact absurd (show false = true from hs) Bool.false_ne_true
  | byt i =>
    obtain ⟨t, rfl⟩ := rx
    cases y with
    | byt j => obtain ⟨t', rfl⟩ := ry; exact PySem.W.eq_bytes (fin_bl I q dec_byt)
    | _ => exact absurd (show false = true from hs) Bool.false_ne_true
  | _ => cases y <;> exact absurd (show false = true from hs) Bool.false_ne_true
theorem op_ne : OpR X (compareOp .NotEq) rNe := by
  intro pins s σ H x y v u Q I rx ry h
  obtain ⟨hs, q⟩ := h
  cases x with
  | non =>
    cases rx
    cases y with
    | non => cases ry; exact PySem.EqNone.ne_none_none (fin_bl I q (by simp))
    | bl j => cases ry; exact PySem.EqNone.ne_none_bool (fin_bl I q (by simp))
    | int j => obtain ⟨t', rfl⟩ := ry; exact PySem.EqNone.ne_none_int (fin_bl I q (by simp))
    | str j => obtain ⟨t', rfl⟩ := ry; exact PySem.EqNone.ne_none_str (fin_bl I q (by simp))
    | _ => exact absurd (show false = true from hs) Bool.false_ne_true
  | bl i =>
    cases rx
    cases y with
    | non => cases ry; exact PySem.EqNone.ne_bool_none (fin_bl I q (by simp))
    | bl j => cases ry; exact ne_bool (fin_bl I q (congrArg not dec_bl))
    | str j => obtain ⟨t', rfl⟩ := ry; exact PySem.EqMixed.ne_bool_str (fin_bl I q (by simp))
    | _ => exact absurd (show false = true from hs) Bool.false_ne_true
  | int i =>
    obtain ⟨t, rfl⟩ := rx
    cases y with
    | non => cases ry; exact PySem.EqNone.ne_int_none (fin_bl I q (by simp))
    | int j => obtain ⟨t', rfl⟩ := ry; exact ne_int (fin_bl I q (congrArg not dec_int))
    | str j => obtain ⟨t', rfl⟩ := ry; exact PySem.EqMixed.ne_int_str (fin_bl I q (by simp))
    | _ => exact absurd (show false = true from hs) Bool.false_ne_true
  | str i =>
    obtain ⟨t, rfl⟩ := rx
    cases y with
    | non => cases ry; exact PySem.EqNone.ne_str_none (fin_bl I q (by simp))
    | bl j => cases ry; exact PySem.EqMixed.ne_str_bool (fin_bl I q (by simp))
    | int j => obtain ⟨t', rfl⟩ := ry; exact PySem.EqMixed.ne_str_int (fin_bl I q (by simp))
    | str j => obtain ⟨t', rfl⟩ := ry; exact ne_str (fin_bl I q (congrArg not dec_str))
    | _ => exact absurd (show false = true from hs) Bool.false_ne_true
  | byt i =>
    obtain ⟨t, rfl⟩ := rx
    cases y with
    | byt j => obtain ⟨t', rfl⟩ := ry; exact PySem.W.ne_bytes (fin_bl I q (congrArg not dec_byt))
    | _ => exact absurd (show false = true from hs) Bool.false_ne_true
  | _ => cases y <;> exact absurd (show false = true from hs) Bool.false_ne_true
theorem op_lt : OpR X (compareOp .Lt) (rI0 fun i j => .bl (decide (i < j))) := opB0 fun _ _ _ _ _ _ _ q => lt_int q
theorem op_le : OpR X (compareOp .LtE) (rI0 fun i j => .bl (decide (i ≤ j))) := opB0 fun _ _ _ _ _ _ _ q => le_int q
theorem op_gt : OpR X (compareOp .Gt) (rI0 fun i j => .bl (decide (j < i))) := opB0 fun _ _ _ _ _ _ _ q => gt_int q
theorem op_ge : OpR X (compareOp .GtE) (rI0 fun i j => .bl (decide (j ≤ i))) := opB0 fun _ _ _ _ _ _ _ q => ge_int q
theorem op_in_str : OpR X (compareOp .In) (fun x y H Q => ∃ i j, x = .str i ∧ y = .str j ∧ Q (.bl (!(Builtin.Str.occurrences j i 0 j.length 1).isEmpty)) H) := by
  intro pins s σ H x y v u Q I rx ry h
  obtain ⟨i, j, rfl, rfl, q⟩ := h
  obtain ⟨t, rfl⟩ := rx
  obtain ⟨t', rfl⟩ := ry
  exact in_str (fin_bl I q rfl)
theorem nomark (b : Expr) {op : CmpOp} (h : op ≠ .In := by decide) (h2 : op ≠ .NotIn := by decide) : behindInMarks op b = false := by
  have e1 : (op == CmpOp.In) = false := by cases op <;> first | rfl | exact absurd rfl h
  have e2 : (op == CmpOp.NotIn) = false := by cases op <;> first | rfl | exact absurd rfl h2
  cases b <;> simp [behindInMarks, e1, e2]
theorem pe_cmpR {op : CmpOp} {r : R2} (ho : OpR X (compareOp op) r) (ha : PE X a ta) (hb : PE X b tb) (hm : behindInMarks op b = false) : PE X (.Compare a [op] [b] pos) (tOp r ta tb) := by
  intro pins s σ H Q I h
  exact wpAny_Compare1 (binT ha hb I h fun v u s2 x y H2 I2 rx ry q => ho pins s2 σ H2 x y v u Q I2 rx ry q) hm
inductive ttR (x : V) (H' : Hp) (Q : Bool → Hp → Prop) : Prop
  | mk (k) (h1 : x = .bl k) (h2 : Q k H') : ttR x H' Q
def tTest (t : TE) : TT := fun σ H Q => t σ H fun x H' => ttR x H' Q
theorem pt_cmpR {op : CmpOp} {r : R2} (ho : OpR X (compareOp op) r) (ha : PE X a ta) (hb : PE X b tb) (hm : behindInMarks op b = false) : PT X (.Compare a [op] [b] pos) (tTest (tOp r ta tb)) := by
  intro pins s σ H Q I h
  refine wpAny_isTrue_Compare1 (thn (ha pins s σ H _ I h) fun v s1 ⟨x, H1, I1, r1, q1⟩ => thn (hb pins s1 σ H1 _ I1 q1) fun u s2 ⟨y, H2, I2, r2, q2⟩ =>
    thn (ho pins s2 σ H2 x y v u _ I2 r1 r2 q2) fun c s3 ⟨z, H3, I3, r3, k, e, q3⟩ => ?_) hm
  subst e
  cases r3
  exact wpAny_truthy_bool ⟨H3, I3, q3⟩
def tChain (r r' : R2) (ta tb tc : TE) : TE := fun σ H Q => ta σ H fun x H1 => tb σ H1 fun y H2 => r x y H2 fun z H3 => ∃ k, z = .bl k ∧
  (if k = true then tc σ H3 fun w' H4 => r' y w' H4 Q else Q (.bl false) H3)
theorem pe_chain {op op' : CmpOp} {r r' : R2} (ho : OpR X (compareOp op) r) (ho' : OpR X (compareOp op') r') (ha : PE X a ta) (hb : PE X b tb) (hc : PE X c tc)
    (hm : lastMarks [op, op'] [b, c] = false := by with_unfolding_all rfl) : PE X (.Compare a [op, op'] [b, c] pos) (tChain r r' ta tb tc) := by
  intro pins s σ H Q I h
  refine Compare_chain (thn (ha pins s σ H _ I h) fun v s1 ⟨x, H1, I1, r1, q1⟩ => chain_link (thn (hb pins s1 σ H1 _ I1 q1) fun u s2 ⟨y, H2, I2, r2, q2⟩ =>
    thn (ho pins s2 σ H2 x y v u _ I2 r1 r2 q2) fun d s3 ⟨z, H3, I3, r3, k, e, q3⟩ => ?_)) hm
  subst e
  cases r3
  refine wpAny_truthy_bool ?_
  cases k with
  | false => exact ite_ff ⟨.bl false, H3, I3, rfl, q3⟩
  | true => exact ite_tt (chain_last (thn (hc pins s3 σ H3 _ I3 q3) fun w' s4 ⟨z', H4, I4, r4, q4⟩ => ho' pins s4 σ H4 y z' u w' Q I4 r2 r4 q4))
theorem pt_chain {op op' : CmpOp} {r r' : R2} (ho : OpR X (compareOp op) r) (ho' : OpR X (compareOp op') r') (ha : PE X a ta) (hb : PE X b tb) (hc : PE X c tc)
    (hm : lastMarks [op, op'] [b, c] = false := by with_unfolding_all rfl) : PT X (.Compare a [op, op'] [b, c] pos) (tTest (tChain r r' ta tb tc)) := by
  intro pins s σ H Q I h
  refine isTrue_chain (thn (ha pins s σ H _ I h) fun v s1 ⟨x, H1, I1, r1, q1⟩ => test_link (thn (hb pins s1 σ H1 _ I1 q1) fun u s2 ⟨y, H2, I2, r2, q2⟩ =>
    thn (ho pins s2 σ H2 x y v u _ I2 r1 r2 q2) fun d s3 ⟨z, H3, I3, r3, k, e, q3⟩ => ?_)) hm
  subst e
  cases r3
  refine wpAny_truthy_bool ?_
  cases k with
  | false =>
    obtain ⟨k', e', q'⟩ := q3
    cases e'
    exact ite_ff ⟨H3, I3, q'⟩
  | true =>
    refine ite_tt (test_last (thn (hc pins s3 σ H3 _ I3 q3) fun w' s4 ⟨z', H4, I4, r4, q4⟩ => thn (ho' pins s4 σ H4 y z' u w' _ I4 r2 r4 q4) fun d' s5 ⟨z2, H5, I5, r5, k2, e2, q5⟩ => ?_))
    subst e2
    cases r5
    exact wpAny_truthy_bool ⟨H5, I5, q5⟩
theorem line63 : (sizeLine : Nat) < 2 ^ 63 := by rw [sizeLine_eq]; decide
theorem vals1 {x : V} {us : List Value} (r : Vals [x] us) : ∃ u, us = [u] ∧ RelV x u := by
  cases r with
  | cons r1 r2 => cases r2; exact ⟨_, rfl, r1⟩
theorem vals2 {x y : V} {us : List Value} (r : Vals [x, y] us) : ∃ u w', us = [u, w'] ∧ RelV x u ∧ RelV y w' := by
  cases r with
  | cons r1 r2 =>
    cases r2 with
    | cons r3 r4 => cases r4; exact ⟨_, _, rfl, r1, r3⟩
theorem call_max2 (hc : X.calm = true) : CallR X (.builtin "max") (fun xs H Q => ∃ i j, xs = [.int i, .int j] ∧ Q (.int (if j > i then j else i)) H) := by
  intro pins s σ H xs us Q I r h
  obtain ⟨i, j, rfl, q⟩ := h
  obtain ⟨u, w', rfl, ⟨t, rfl⟩, ⟨t', rfl⟩⟩ := vals2 r
  refine max_two_ints (I.ok.hd hc) fun h' tk k => ⟨_, H, I.kept k, ?_, q⟩
  by_cases hj : j > i
  · rw [if_pos hj, if_pos hj]; exact ⟨_, rfl⟩
  · rw [if_neg hj, if_neg hj]; exact ⟨_, rfl⟩
theorem call_min2 (hc : X.calm = true) : CallR X (.builtin "min") (fun xs H Q => ∃ i j, xs = [.int i, .int j] ∧ Q (.int (if j < i then j else i)) H) := by
  intro pins s σ H xs us Q I r h
  obtain ⟨i, j, rfl, q⟩ := h
  obtain ⟨u, w', rfl, ⟨t, rfl⟩, ⟨t', rfl⟩⟩ := vals2 r
  refine min_two_ints (I.ok.hd hc) fun h' tk k => ⟨_, H, I.kept k, ?_, q⟩
  by_cases hj : j < i
  · rw [if_pos hj, if_pos hj]; exact ⟨_, rfl⟩
  · rw [if_neg hj, if_neg hj]; exact ⟨_, rfl⟩
theorem call_int1 : CallR X (.type "int") (fun xs H Q => (∃ i, xs = [.int i] ∧ Q (.int i) H) ∨ ∃ k, xs = [.bl k] ∧ Q (.int (if k then 1 else 0)) H) := by
  intro pins s σ H xs us Q I r h
  rcases h with ⟨i, rfl, q⟩ | ⟨k, rfl, q⟩
  · obtain ⟨u, rfl, t, rfl⟩ := vals1 r
    exact call_int_int ⟨.int i, H, I, ⟨_, rfl⟩, q⟩
  · obtain ⟨u, rfl, r1⟩ := vals1 r
    cases r1
    exact call_int_bool ⟨.int (if k then 1 else 0), H, I.tok _, ⟨_, rfl⟩, q⟩
theorem call_str_int : CallR X (.type "str") (fun xs H Q => ∃ i, xs = [.int i] ∧ i.natAbs.log2 < 1920 ∧ Q (.str (toString i)) H) := by
  intro pins s σ H xs us Q I r h
  obtain ⟨i, rfl, hz, q⟩ := h
  obtain ⟨u, rfl, t, rfl⟩ := vals1 r
  exact PySem.P.str_of_int hz ⟨.str _, H, I.tok _, ⟨_, rfl⟩, q⟩
end
end L2
namespace L2
open PySem PySem.Spec PyProof.Rows
structure ObjM (h : Heap) (x dx C : Addr) (mA : Str → Option Value) : Prop where
  obj : h.get? x = some (PySem.W.instObj C dx)
  ns : h.Ns1 dx mA
  ne : dx ≠ x
theorem lookIn_ns {h : Heap} {dx : Addr} {mA : Str → Option Value} (n : h.Ns1 dx mA) : ∃ od, h.get? dx = some od ∧ ∀ name, PySem.W.lookIn name od = some (mA name) := by
  obtain ⟨o, es, ep, ho, hd, hk, _, hm⟩ := n
  refine ⟨o, ho, fun name => ?_⟩
  have e := hm name
  unfold nsFind findBy at e
  rw [← Array.find?_toList] at e
  unfold PySem.W.lookIn
  rw [hd]
  dsimp only
  split
  · rename_i y q
    rw [q] at e
    exact congrArg some e
  · rename_i q
    rw [q] at e
    have a : es.toList.any (·.refKey) = false := by
      rw [List.any_eq_false]
      intro y hy
      obtain ⟨z, t, hkey⟩ := hk y (Array.mem_toList_iff.mp hy)
      simp [DictEntry.refKey, hkey]
    have a' : ¬ es.toList.any (·.refKey) = true := by rw [a]; exact Bool.false_ne_true
    rw [if_neg a']
    exact congrArg some e
theorem ObjM.look {h : Heap} {x dx C : Addr} {mA : Str → Option Value} (I : ObjM h x dx C mA) : ∃ od, PySem.W.InstAt h x (PySem.W.instObj C dx) C (some od) ∧ ∀ name, PySem.W.lookIn name od = some (mA name) :=
  let ⟨od, ho, hl⟩ := lookIn_ns I.ns
  ⟨od, ⟨I.obj, rfl, rfl, ho⟩, hl⟩
section
variable {prog : Program} {w : World} {A : Around} {E : Value → Shared → Prop} {s : Shared} {K : PySem.W.Frag} {x dx C f : Addr} {mA : Str → Option Value} {name : Str} {v : Value}
theorem get_map {expr : Bool} {Q : Value → Shared → Prop} (X : K.In s.heap) (I : ObjM s.heap x dx C mA) (hg : PySem.W.plainGet K C name = true) (hh : PySem.W.hasDictIn K C = true)
    (ha : PySem.W.findIn K (.ref C) name = some none) (hv : mA name = some v) (hv' : PySem.W.handedIn v = true) (h : Q v { s with toks := s.toks + 1 }) :
    wpAny (model prog w) A (getAttr (.ref x) name expr) Q E s := by
  obtain ⟨od, J, hl⟩ := I.look
  exact PySem.W.get_value X J (PySem.W.plainGet_of hg).1 (PySem.W.findObj_own hh ha rfl (by rw [hl, hv])) hv' h
theorem get_meth {pl : Sem Bool} {Q : Value × List Value → Shared → Prop} (X : K.In s.heap) (I : ObjM s.heap x dx C mA) (hg : PySem.W.plainGet K C name = true)
    (hf : PySem.W.findIn K (.ref C) name = some (some (.ref f))) (ht : PySem.W.isFn K (.ref f) = true) (hv : mA name = none) (h : Q (.ref f, [.ref x]) s) :
    wpAny (model prog w) A (getMethod (.ref x) name pl) Q E s := by
  obtain ⟨od, J, hl⟩ := I.look
  exact PySem.W.method_fn X J (PySem.W.plainGet_of hg).1 (PySem.W.plainGet_of hg).2 hf (beq_iff_eq.mp ht) (by show (PySem.W.lookIn name od).map (·.isSome) = some false; rw [hl, hv]; rfl) h
theorem set_map {ns : List Str} {Q : Unit → Shared → Prop} (X : K.In s.heap) (I : ObjM s.heap x dx C mA)
    (hs : PySem.W.findIn K (.ref C) "__setattr__" = some (some (.builtin "object.__setattr__"))) (hp : PySem.W.plainOver K C = true) (ht : PySem.W.takerIn K C name = some none) (hh : PySem.W.hasDictIn K C = true)
    (hw : PySem.Within mA ns) (hsz : ns.length ≤ sizeLine)
    (h : ∀ h', ObjM h' x dx C (fun y => if y = name then some v else mA y) → Heap.SameBut dx s.heap h' → Q () { s with heap := h', toks := s.toks + 2 }) :
    wpAny (model prog w) A (setAttr (.ref x) name v) Q E s := by
  obtain ⟨od, J, hl⟩ := I.look
  refine PySem.W.set_plain X J hs (PySem.W.osa_open (s := { s with toks := s.toks + 1 }) (r := none) X J hp ht fun b => ?_)
  obtain ⟨cd, hc, hd'⟩ := PySem.W.any_some hh
  have hx : s.heap.get? x = some ⟨.ref C, some dx, .plain, #[]⟩ := I.obj
  refine wpAny_bind (wpAny_pure (wpAny_bind (wpAny_bind (wpAny_loadPart hx (wpAny_bind (PySem.W.Looks.here (s := { s with toks := s.toks + 1 }) (PySem.W.looks_clsIn X hc) ?_))))))
  rw [hd']
  refine wpAny_pure (a := some dx) (wpAny_bind (wpAny_pure (wpAny_bind ?_)))
  refine wpAny_nsSet1 (s := { s with toks := s.toks + 1 }) I.ns fun h' hn2 hs2 => ?_
  obtain ⟨oD, esD, epD, hoD, hdD, hcD⟩ := hn2.count (PySem.Within.cons name v hw)
  refine wpAny_bind (wpAny_lookBehind hoD (by rw [hdD]; exact pastItsLine_dict (Nat.le_trans hcD (by rw [List.length_cons]; omega))) ?_)
  exact wpAny_pure (h _ ⟨(hs2.2 _ (Ne.symm I.ne)).trans I.obj, hn2, I.ne⟩ hs2)
theorem make_map {R : Result → Shared → Prop} {vs : List Value} {kw : List (Str × Value)} (X : K.In s.heap) (hm : PySem.W.makesIn K C = true)
    (hi : PySem.W.findIn K (.ref C) "__init__" = some (some (.ref f))) (hf : PySem.W.typeIn K (.ref f) = some (.type "function"))
    (h : codeAny (model prog w) (A.under (.builtin "type.__call__" ⟨.ref C :: vs, kw⟩)) (.call (.ref f) ⟨.ref (s.heap.objs.size + 1) :: vs, kw⟩) (PySem.W.InitBack (s.heap.objs.size + 1) R)
      { s with heap := (s.heap.push PySem.W.emptyDict).push (PySem.W.instObj C s.heap.objs.size) }) :
    codeAny (model prog w) A (.call (.ref C) ⟨vs, kw⟩) R s := by
  obtain ⟨hh, g, d, t, os⟩ := s
  exact PySem.W.make_core (PySem.W.makes_of X hm) (PySem.W.looks_findIn X hi) (fun self => PySem.W.bind_fn X self hf) (.inl rfl) h
end
def putF (f : Str) (v : V) : List (Str × V) → List (Str × V)
  | [] => [(f, v)]
  | (g, x) :: r => if g = f then (g, v) :: r else (g, x) :: putF f v r
theorem lookup_putF (f g : Str) (v : V) : ∀ fs : List (Str × V), (putF f v fs).lookup g = if g = f then some v else fs.lookup g
  | [] => by
    show List.lookup g [(f, v)] = _
    by_cases h : g = f
    · have hb : (g == f) = true := beq_iff_eq.mpr h
      simp only [List.lookup, hb, if_pos h]
    · have hb : (g == f) = false := beq_eq_false_iff_ne.mpr h
      simp only [List.lookup, hb, if_neg h]
  | (k, x) :: r => by
    have ih := lookup_putF f g v r
    rw [show putF f v ((k, x) :: r) = (if k = f then (k, v) :: r else (k, x) :: putF f v r) from rfl]
    by_cases hk : k = f
    · rw [if_pos hk]
      by_cases h : g = k
      · have hb : (g == k) = true := beq_iff_eq.mpr h
        simp only [List.lookup, hb, if_pos (h.trans hk)]
      · have hb : (g == k) = false := beq_eq_false_iff_ne.mpr h
        simp only [List.lookup, hb, if_neg (fun e : g = f => h (e.trans hk.symm))]
    · rw [if_neg hk]
      by_cases h : g = k
      · have hb : (g == k) = true := beq_iff_eq.mpr h
        simp only [List.lookup, hb, if_neg (fun e : g = f => hk (h.symm.trans e))]
      · have hb : (g == k) = false := beq_eq_false_iff_ne.mpr h
        simp only [List.lookup, hb]
        exact ih
theorem keys_putF (f : Str) (v : V) : ∀ fs : List (Str × V), f ∈ (putF f v fs).map (·.1) ∧ ∀ g, g ∈ fs.map (·.1) → g ∈ (putF f v fs).map (·.1)
  | [] => ⟨by simp [putF], fun g h => by simp at h⟩
  | (k, x) :: r => by
    obtain ⟨i1, i2⟩ := keys_putF f v r
    rw [show putF f v ((k, x) :: r) = (if k = f then (k, v) :: r else (k, x) :: putF f v r) from rfl]
    by_cases hk : k = f
    · rw [if_pos hk]
      subst hk
      exact ⟨by simp, fun g h => by simpa using h⟩
    · rw [if_neg hk]
      refine ⟨?_, fun g h => ?_⟩
      · rw [List.map_cons]
        exact List.mem_cons_of_mem _ i1
      · rw [List.map_cons] at h ⊢
        rcases List.mem_cons.mp h with e | e
        · exact List.mem_cons.mpr (.inl e)
        · exact List.mem_cons_of_mem _ (i2 g e)
theorem length_putF (f : Str) (v : V) : ∀ fs : List (Str × V), (putF f v fs).length ≤ fs.length + 1
  | [] => by simp [putF]
  | (k, x) :: r => by
    have ih := length_putF f v r
    rw [show putF f v ((k, x) :: r) = (if k = f then (k, v) :: r else (k, x) :: putF f v r) from rfl]
    by_cases hk : k = f
    · rw [if_pos hk, List.length_cons, List.length_cons]; omega
    · rw [if_neg hk, List.length_cons, List.length_cons]; omega
theorem RelO.some_of {v : V} {o : Option Value} (r : RelO (some v) o) : ∃ u, o = some u ∧ RelV v u := by
  cases o with
  | none => exact (show False from r).elim
  | some u => exact ⟨u, rfl, r⟩
theorem RelO.none_of {o : Option Value} (r : RelO none o) : o = none := by
  cases o with
  | none => rfl
  | some u => exact (show False from r).elim
theorem handed_of {v : V} {u : Value} (r : RelV v u) : PySem.W.handedIn u = true := by
  cases v with
  | non => cases (show u = Value.none from r); rfl
  | bl b => cases (show u = Value.bool b from r); rfl
  | int i => obtain ⟨t, e⟩ := (show ∃ t, u = Value.int i t from r); cases e; rfl
  | str x => obtain ⟨t, e⟩ := (show ∃ t, u = Value.str x t from r); cases e; rfl
  | byt b => obtain ⟨t, e⟩ := (show ∃ t, u = Value.bytes b t from r); cases e; rfl
  | flt b => obtain ⟨t, e⟩ := (show ∃ t, u = Value.float b t from r); cases e; rfl
  | ref a => cases (show u = Value.ref a from r); rfl
  | ty n => cases (show u = Value.type n from r); rfl
section
variable {P : Program} {w : World} {H H' : Hp} {h h' : Heap} {a C dx : Addr} {fs fs' : List (Str × V)}
theorem ins_get (hok : HOk P w H h) (e : H a = some (.ins C dx fs)) : ∃ mA, ObjM h a dx C mA ∧ (∀ f, RelO (fs.lookup f) (mA f)) ∧ PySem.Within mA (fs.map (·.1)) ∧ fs.length ≤ 1000 ∧ H dx = some (.own a) := by
  obtain ⟨d, z, ne, ob, mA, n, r, q⟩ := (show ObjOk P w H h a (.ins C dx fs) from hok a _ e)
  exact ⟨mA, ⟨ob, n, ne⟩, r, q, z, d⟩
end
structure Cls (K : PySem.W.Frag) (C : Addr) : Prop where
  pg : PySem.W.plainGet K C Str.empty = true
  hd : PySem.W.hasDictIn K C = true
  po : PySem.W.plainOver K C = true
  sa : PySem.W.findIn K (.ref C) "__setattr__" = some (some (.builtin "object.__setattr__"))
theorem Cls.get {K : PySem.W.Frag} {C : Addr} (c : Cls K C) (f : Str) : PySem.W.plainGet K C f = true := c.pg
def NoAttr (K : PySem.W.Frag) (C : Addr) (f : Str) : Prop := PySem.W.findIn K (.ref C) f = some none
theorem NoAttr.taker {K : PySem.W.Frag} {C : Addr} {f : Str} (n : NoAttr K C f) : PySem.W.takerIn K C f = some none := by
  unfold PySem.W.takerIn
  rw [show PySem.W.findIn K (.ref C) f = some none from n]
  rfl
structure Meth (K : PySem.W.Frag) (C : Addr) (m : Str) (f : Addr) : Prop where
  at_ : PySem.W.findIn K (.ref C) m = some (some (.ref f))
  fn : PySem.W.isFn K (.ref f) = true
  kp : PySem.W.keepIn K (.ref f) = true
section
variable {X : Cx} {pins : List (Addr × Obj)} {σ : St} {H : Hp} {s : Shared} {a C dx : Addr} {fs : List (Str × V)} {f : Str} {v : V} {A : Around} {E : Value → Shared → Prop}
theorem getattr_ok {b : Bool} {Q : Value → Shared → Prop} (I : Inv X pins σ H s) (e : H a = some (.ins C dx fs)) (c : Cls X.K C) (n : NoAttr X.K C f) (l : fs.lookup f = some v)
    (h : ∀ u s', Inv X pins σ H s' → RelV v u → Q u s') : wpAny (model X.prog X.w) A (getAttr (.ref a) f b) Q E s := by
  obtain ⟨mA, O, r, _, _, _⟩ := ins_get I.hok e
  obtain ⟨u, hu, ru⟩ := RelO.some_of (v := v) (o := mA f) (by rw [← l]; exact r f)
  exact get_map I.kIn O (c.get f) c.hd n hu (handed_of ru) (h u _ (I.tok _) ru)
theorem getmeth_ok {m : Str} {g : Addr} {pl : Sem Bool} {Q : Value × List Value → Shared → Prop} (I : Inv X pins σ H s) (e : H a = some (.ins C dx fs)) (c : Cls X.K C) (k : Meth X.K C m g) (l : fs.lookup m = none)
    (h : Q (.ref g, [.ref a]) s) : wpAny (model X.prog X.w) A (getMethod (.ref a) m pl) Q E s := by
  obtain ⟨mA, O, r, _, _, _⟩ := ins_get I.hok e
  have hn : mA m = none := RelO.none_of (by rw [← l]; exact r m)
  exact get_meth I.kIn O (c.get m) k.at_ k.fn hn h
theorem setattr_ok {y : V} {u : Value} {Q : Unit → Shared → Prop} (I : Inv X pins σ H s) (e : H a = some (.ins C dx fs)) (c : Cls X.K C) (n : NoAttr X.K C f) (hl : fs.length < 1000) (ry : RelV y u)
    (h : ∀ s', Inv X pins σ (upd H a (.ins C dx (putF f y fs))) s' → Q () s') : wpAny (model X.prog X.w) A (setAttr (.ref a) f u) Q E s := by
  obtain ⟨mA, O, r, wi, _, ho⟩ := ins_get I.hok e
  have hz : (fs.map (·.1)).length ≤ sizeLine := by rw [List.length_map, sizeLine_eq]; omega
  refine set_map I.kIn O c.sa c.po n.taker c.hd wi hz fun h' O' sb => h _ ?_
  have hd : ∃ o, h'.get? dx = some o := let ⟨o, _, _, e', _⟩ := O'.ns; ⟨o, e'⟩
  refine I.write (x := a) (e := dx) (by rw [e]; exact True.intro) (.inr ho) (fun b q hb z => (sb.2 b hb).trans z) hd ?_
  refine ⟨by rw [upd_ne O.ne]; exact ho, ?_, O.ne, O'.obj, _, O'.ns, fun g => ?_, fun g hg => ?_⟩
  · have := length_putF f y fs; omega
  · show RelO ((putF f y fs).lookup g) (if g = f then some u else mA g)
    rw [lookup_putF]
    by_cases q : g = f
    · rw [if_pos q, if_pos q]; exact ry
    · rw [if_neg q, if_neg q]; exact r g
  · by_cases q : g = f
    · rw [q]; exact (keys_putF f y fs).1
    · refine (keys_putF f y fs).2 g (wi g fun z => hg ?_)
      show (if g = f then some u else mA g) = none
      rw [if_neg q]; exact z
theorem Inv.made (I : Inv X pins σ H s) : Inv X pins σ (upd (upd H s.heap.objs.size (.own (s.heap.objs.size + 1))) (s.heap.objs.size + 1) (.ins C s.heap.objs.size []))
    { s with heap := (s.heap.push PySem.W.emptyDict).push (PySem.W.instObj C s.heap.objs.size) } := by
  have e1 : (s.heap.push PySem.W.emptyDict).get? s.heap.objs.size = some PySem.W.emptyDict := Heap.get?_push_size s.heap rfl
  have e2 : ((s.heap.push PySem.W.emptyDict).push (PySem.W.instObj C s.heap.objs.size)).get? (s.heap.objs.size + 1) = some (PySem.W.instObj C s.heap.objs.size) := by
    have := Heap.get?_push_size (s.heap.push PySem.W.emptyDict) (o := PySem.W.instObj C s.heap.objs.size) rfl
    rwa [Heap.size_push] at this
  have e3 : (s.heap.push PySem.W.emptyDict).Ns s.heap.objs.size (fun _ => none) := ⟨PySem.W.emptyDict, #[], _, e1, rfl, (fun e he => absurd he (by simp)), fun _ => rfl⟩
  have I1 := I.laid (a := s.heap.objs.size) (o := .own (s.heap.objs.size + 1)) (h' := s.heap.push PySem.W.emptyDict) (t' := s.toks) (fun b u q => Heap.get?_push_of_some _ q) (Nat.le_refl _) ⟨_, e1⟩
  refine I1.laid (a := s.heap.objs.size + 1) (o := .ins C s.heap.objs.size []) (t' := s.toks) (fun b u q => Heap.get?_push_of_some _ q) (Nat.le_of_eq (Heap.size_push _ _)) ?_
  have ne : s.heap.objs.size ≠ s.heap.objs.size + 1 := Nat.ne_of_lt (Nat.lt_succ_self _)
  refine ⟨by rw [upd_ne ne, upd_same], Nat.zero_le _, ne, e2, fun _ => none, (Heap.Ns1.of_empty e3).at fun o q => Heap.get?_push_of_some _ q, fun _ => True.intro, fun y hy => absurd rfl hy⟩
theorem attr_of {prog : Program} {w : World} {env : Env} {e : Expr} {f : Str} {pos : Pos} {s : Shared} {Q : Value → Shared → Prop} (hb : attributeBase e f env (eval e env) = eval e env)
    (h : wpAny (model prog w) A (eval e env) (fun o s₁ => wpAny (model prog w) A (getAttr o f true) Q E s₁) E s) : wpAny (model prog w) A (eval (.Attribute e f pos) env) Q E s :=
  Attribute_any_ h (by rw [arm_eval_Attribute, hb])
end
inductive fldR (K : PySem.W.Frag) (f : Str) (x : V) (H1 : Hp) (Q : VK) : Prop
  | mk (a C dx fs v) (h1 : x = .ref a) (h2 : H1 a = some (.ins C dx fs)) (h3 : Cls K C) (h4 : NoAttr K C f) (h5 : fs.lookup f = some v) (h6 : Q v H1) : fldR K f x H1 Q
def tFld (K : PySem.W.Frag) (ta : TE) (f : Str) : TE := fun σ H Q => ta σ H fun x H1 => fldR K f x H1 Q
def sFld (K : PySem.W.Frag) (ta tv : TE) (f : Str) : TS := fun D σ H => tv σ H fun y H1 => ta σ H1 fun x H2 => ∃ a C dx fs, x = .ref a ∧ H2 a = some (.ins C dx fs) ∧ Cls K C ∧ NoAttr K C f ∧ fs.length < 1000 ∧
  D.nx σ (upd H2 a (.ins C dx (putF f y fs)))
def InOp (X : Cx) (op : Operator) (rd : V → V → Hp → VK → Prop) : Prop :=
  ∀ (pins : List (Addr × Obj)) (s : Shared) (σ : St) (H : Hp) (x y : V) (u v : Value) (Q : VK), Inv X pins σ H s → RelV x u → RelV y v → rd x y H Q → wpAny (model X.prog X.w) X.A (inplaceOp op u v) (EP X pins σ Q) X.xe s
def sFldAug (K : PySem.W.Frag) (ta tv : TE) (rd : V → V → Hp → VK → Prop) (f : Str) : TS := fun D σ H => ta σ H fun x H1 => ∃ a C dx fs v, x = .ref a ∧ H1 a = some (.ins C dx fs) ∧ Cls K C ∧ NoAttr K C f ∧ fs.lookup f = some v ∧
  tv σ H1 fun y H2 => rd v y H2 fun z H3 => ∃ dx' fs', H3 a = some (.ins C dx' fs') ∧ fs'.length < 1000 ∧ D.nx σ (upd H3 a (.ins C dx' (putF f z fs')))
section
variable {X : Cx} {o e value : Expr} {f : Str} {pos pos' tpos : Pos} {ta tv : TE}
theorem pe_fld (he : PE X e ta) (hb : attributeBase e f X.env (eval e X.env) = eval e X.env) : PE X (.Attribute e f pos) (tFld X.K ta f) := by
  intro pins s σ H Q I h
  refine attr_of hb (thn (he pins s σ H _ I h) fun u s1 ⟨x, H1, I1, rx, a, C, dx, fs, v, ex, ea, c, n, l, q⟩ => ?_)
  subst ex
  obtain rfl : u = Value.ref a := rx
  exact getattr_ok I1 ea c n l fun u' s2 I2 ru => ⟨v, H1, I2, ru, q⟩
theorem ps_fld (ha : PE X o ta) (hv : PE X value tv) (hs : swapsWith value (some (.Attribute o f pos')) pos.line X.env = pure false) : PS X (.Assign [.Attribute o f pos'] value pos) (sFld X.K ta tv f) := by
  intro pins s σ H D I h
  refine plainObj_wpAny_Assign_Attribute (thn (hv pins s σ H _ I h) fun u s1 ⟨y, H1, I1, ry, q⟩ => thn (ha pins s1 σ H1 _ I1 q) fun ov s2 ⟨x, H2, I2, rx, a, C, dx, fs, ex, ea, c, n, l, q2⟩ => ?_) hs
  subst ex
  obtain rfl : ov = Value.ref a := rx
  exact setattr_ok I2 ea c n l ry fun s3 I3 => ⟨σ, _, I3, q2⟩
theorem ps_fldaug {op : Operator} {rd : V → V → Hp → VK → Prop} (ha : PE X o ta) (hv : PE X value tv) (hop : InOp X op rd) : PS X (.AugAssign (.Attribute o f tpos) op value pos) (sFldAug X.K ta tv rd f) := by
  intro pins s σ H D I h
  refine wpAny_AugAssign_AttributeAny (thn (ha pins s σ H _ I h) fun ov s1 ⟨x, H1, I1, rx, a, C, dx, fs, v, ex, ea, c, n, l, q⟩ => ?_)
  subst ex
  obtain rfl : ov = Value.ref a := rx
  refine getattr_ok I1 ea c n l fun u s2 I2 ru => thn (hv pins s2 σ H1 _ I2 q) fun w3 s3 ⟨y, H2, I3, ry, q3⟩ => thn (hop pins s3 σ H2 v y u w3 _ I3 ru ry q3) fun w4 s4 ⟨z, H3, I4, rz, dx', fs', ea', l', q4⟩ => ?_
  exact setattr_ok I4 ea' c n l' rz fun s5 I5 => ⟨σ, _, I5, q4⟩
def rAdd : V → V → Hp → VK → Prop := fun x y H Q => ∃ i j, x = .int i ∧ y = .int j ∧ Q (.int (i + j)) H
def rSub : V → V → Hp → VK → Prop := fun x y H Q => ∃ i j, x = .int i ∧ y = .int j ∧ Q (.int (i - j)) H
theorem in_add : InOp X .Add rAdd := by
  rintro pins s σ H x y u v Q I rx ry ⟨i, j, rfl, rfl, q⟩
  obtain ⟨t, rfl⟩ := (show ∃ t, u = Value.int i t from rx)
  obtain ⟨t', rfl⟩ := (show ∃ t', v = Value.int j t' from ry)
  exact PyProof.Rows.iadd_int ⟨.int (i + j), H, I.tok _, ⟨_, rfl⟩, q⟩
theorem in_sub : InOp X .Sub rSub := by
  rintro pins s σ H x y u v Q I rx ry ⟨i, j, rfl, rfl, q⟩
  obtain ⟨t, rfl⟩ := (show ∃ t, u = Value.int i t from rx)
  obtain ⟨t', rfl⟩ := (show ∃ t', v = Value.int j t' from ry)
  exact PyProof.Rows.isub_int ⟨.int (i - j), H, I.tok _, ⟨_, rfl⟩, q⟩
end
section
variable {X : Cx} {pins : List (Addr × Obj)} {σ : St} {H : Hp} {s : Shared} {A : Around} {E : Value → Shared → Prop} {Q : Value → Shared → Prop} {c : Value} {b : Bool}
inductive TyOf (K : PySem.W.Frag) (H : Hp) : V → Value → Prop where
  | non : TyOf K H .non (.type "NoneType")
  | bl (x : Bool) : TyOf K H (.bl x) (.type "bool")
  | int (i : Int) : TyOf K H (.int i) (.type "int")
  | str (x : Str) : TyOf K H (.str x) (.type "str")
  | flt (x : UInt64) : TyOf K H (.flt x) (.type "float")
  | lst {a : Addr} {xs : List V} (e : H a = some (.lst xs)) : TyOf K H (.ref a) (.type "list")
  | frz {a : Addr} {o : Obj} {xs : List V} (e : H a = some (.frz o (.lst xs))) : TyOf K H (.ref a) (.type "list")
  | tup {a : Addr} {xs : List V} (e : H a = some (.tup xs)) : TyOf K H (.ref a) (.type "tuple")
  | dK {a : Addr} {kvs : List (Key × V)} (e : H a = some (.dK kvs)) : TyOf K H (.ref a) (.type "dict")
  | dT {a : Addr} {kvs : List (List Key × V)} (e : H a = some (.dT kvs)) : TyOf K H (.ref a) (.type "dict")
  | ins {a C dx : Addr} {fs : List (Str × V)} (e : H a = some (.ins C dx fs)) (cl : Cls K C) (ha : PySem.W.findIn K (.ref C) "__class__" = some (some (.builtin "object.__class__")))
      (hn : PySem.W.specialIn K (.builtin "object.__class__") "__get__" = some (some (.builtin "getset_descriptor.__get__"))) (htk : PySem.W.takesIn K (.builtin "object.__class__") = some true)
      (hm : PySem.W.mroIn K C (.type "object") = some true) : TyOf K H (.ref a) (.ref C)
theorem isinst_ok {x : V} {u t : Value} (I : Inv X pins σ H s) (rx : RelV x u) (ty : TyOf X.K H x t) (e : PySem.W.kitOne X.K t c = some b) (h : ∀ tk, Q (.bool b) { s with toks := tk }) :
    wpAny (model X.prog X.w) A (call (.builtin "isinstance") [u, c]) Q E s := by
  cases ty with
  | non => cases (show u = Value.none from rx); exact PySem.W.kia_one PySem.W.kitx_none I.kIn True.intro e (fun z => nomatch z) h
  | bl y => cases (show u = Value.bool y from rx); exact PySem.W.kia_one PySem.W.kitx_bool I.kIn True.intro e (fun z => nomatch z) h
  | int i => obtain ⟨t, q⟩ := (show ∃ t, u = Value.int i t from rx); cases q; exact PySem.W.kia_one PySem.W.kitx_int I.kIn True.intro e (fun z => nomatch z) h
  | str y => obtain ⟨t, q⟩ := (show ∃ t, u = Value.str y t from rx); cases q; exact PySem.W.kia_one PySem.W.kitx_str I.kIn True.intro e (fun z => nomatch z) h
  | flt y => obtain ⟨t, q⟩ := (show ∃ t, u = Value.float y t from rx); cases q; exact PySem.W.kia_one PySem.W.kitx_float I.kIn True.intro e (fun z => nomatch z) h
  | @lst a xs ea =>
    cases (show u = Value.ref a from rx)
    obtain ⟨_, _, n, _, h1⟩ := (show ObjOk X.prog X.w H s.heap a (.lst xs) from I.hok a _ ea)
    exact PySem.W.kia_one PySem.W.kitx_list I.kIn ⟨_, h1, rfl⟩ e (fun z => nomatch z) h
  | @frz a ob xs ea =>
    cases (show u = Value.ref a from rx)
    obtain ⟨_, _, _, n, _, h1⟩ := (show ObjOk X.prog X.w H s.heap a (.frz ob (.lst xs)) from I.hok a _ ea)
    exact PySem.W.kia_one PySem.W.kitx_list I.kIn ⟨_, h1, rfl⟩ e (fun z => nomatch z) h
  | @tup a xs ea =>
    cases (show u = Value.ref a from rx)
    obtain ⟨_, _, _, p⟩ := (show ObjOk X.prog X.w H s.heap a (.tup xs) from I.hok a _ ea)
    obtain ⟨o, h1, h2, _⟩ := p
    exact PySem.W.kia_one PySem.W.kitx_tuple I.kIn ⟨o, h1, h2⟩ e (fun z => nomatch z) h
  | @dK a kvs ea =>
    cases (show u = Value.ref a from rx)
    obtain ⟨_, _, vs, _, p⟩ := (show ObjOk X.prog X.w H s.heap a (.dK kvs) from I.hok a _ ea)
    obtain ⟨o, es, ep, h1, h2, _⟩ := p
    exact PySem.W.kia_one PySem.W.kitx_dict I.kIn ⟨o, h1, h2.1⟩ e (fun z => nomatch z) h
  | @dT a kvs ea =>
    cases (show u = Value.ref a from rx)
    obtain ⟨_, _, xs, _, o, es, ep, h1, h2, _⟩ := (show ObjOk X.prog X.w H s.heap a (.dT kvs) from I.hok a _ ea)
    exact PySem.W.kia_one PySem.W.kitx_dict I.kIn ⟨o, h1, h2.1⟩ e (fun z => nomatch z) h
  | @ins a C dx fs ea cl ha hn htk hm =>
    cases (show u = Value.ref a from rx)
    obtain ⟨mA, O, _⟩ := ins_get I.hok ea
    obtain ⟨od, J, _⟩ := O.look
    exact PySem.W.kia_one (PySem.W.kitx_own (cl.get _) cl.hd ha hn htk hm) I.kIn J e (fun z => nomatch z) h
end
end L2
namespace L2
open PySem PySem.Spec PyProof.Rows
structure Room (k : Nat) (A : Around) : Prop where
  hd : A.handled = none
  dp : A.depth + 3 * k + 5 < recursionLimit
  un : A.units + 16 * k + 200 < cLine
  gd : A.guards = some []
theorem Room.mono {j k : Nat} {A : Around} (r : Room k A) (h : j ≤ k) : Room j A := ⟨r.hd, by have := r.dp; omega, by have := r.un; omega, r.gd⟩
theorem Room.deeper {k : Nat} {A : Around} (r : Room (k + 1) A) (env : Env) : Room k (A.deeper env) :=
  ⟨r.hd, by have := r.dp; show A.depth + 1 + 3 * k + 5 < _; omega, by have := r.un; show A.units + 3 + 16 * k + 200 < _; omega, r.gd⟩
theorem make_depth {A : Around} {C : Addr} {us : List Value} {kw : List (Str × Value)} : (A.under (.builtin "type.__call__" ⟨.ref C :: us, kw⟩)).depth = A.depth + 1 := by
  first | rfl | simp [Around.under, Code.weight, Code.isCreation, Code.isGuard, Code.isCaller, Code.frames, Code.isFrame, guardIds]
theorem make_units {A : Around} {C : Addr} {us : List Value} {kw : List (Str × Value)} : (A.under (.builtin "type.__call__" ⟨.ref C :: us, kw⟩)).units = A.units + 1 := by
  first | rfl | simp [Around.under, Code.cUnits, Code.frames, Code.isFrame]
theorem Room.make {k : Nat} {A : Around} (r : Room (k + 1) A) (C : Addr) (us : List Value) (kw : List (Str × Value)) : Room k (A.under (.builtin "type.__call__" ⟨.ref C :: us, kw⟩)) :=
  ⟨r.hd, by have := r.dp; rw [make_depth]; omega, by have := r.un; rw [make_units]; omega, by have h := r.gd; first | (unfold Around.under; simp [h, pushGuards, Code.guards, Code.isGuard, guardIds]) | (simp [Around.under, h, pushGuards, Code.guards, Code.isGuard, guardIds])⟩
theorem Room.depth {k : Nat} {A : Around} (r : Room k A) : A.depth < recursionLimit := by have := r.dp; omega
theorem Room.units {k : Nat} {A : Around} (r : Room k A) : A.units + 64 < cLine := by have := r.un; omega
def tNil : TA := fun _ H Q => Q [] H
def tCons (ta : TE) (tr : TA) : TA := fun σ H Q => ta σ H fun x H1 => tr σ H1 fun xs H2 => Q (x :: xs) H2
section
variable {X : Cx} {e : Expr} {es : List Expr} {te : TE} {t : TA} {pos : Pos}
theorem pa_nil : PA X [] tNil := fun _ _ _ _ H Q I h => Calls.spliced_nil ⟨[], H, I, .nil, h⟩
theorem pa_cons (ha : PE X e te) (hr : PA X es t) (hs : starEach (e :: es) X.env = (false, eval e X.env) :: starEach es X.env := by rfl) : PA X (e :: es) (tCons te t) := by
  intro pos pins s σ H Q I h
  rw [hs]
  show wpAny _ _ (spliced ((false, eval e X.env) :: backTo pos (starEach es X.env))) _ _ s
  refine Calls.spliced_cons (thn (ha pins s σ H _ I h) fun u s1 ⟨x, H1, I1, r1, q1⟩ => ?_)
  exact thn (hr pos pins s1 σ H1 _ I1 q1) fun us s2 ⟨xs, H2, I2, r2, q2⟩ => ⟨x :: xs, H2, I2, .cons r1 r2, q2⟩
def tTup (t : TA) : TE := fun σ H Q => t σ H fun xs H1 => xs.length ≤ sizeLine ∧ ∀ p, H1 p = none → Q (.ref p) (upd H1 p (.tup xs))
def tLst (t : TA) : TE := fun σ H Q => t σ H fun xs H1 => xs.length ≤ sizeLine ∧ ∀ p, H1 p = none → Q (.ref p) (upd H1 p (.lst xs))
theorem pe_tup {x1} (h : PA X es t) : PE X (.Tuple es x1 pos) (tTup t) := by
  intro pins s σ H Q I hq
  refine wpAny_Tuple_spliced (thn (h pos pins s σ H _ I hq) fun us s1 ⟨xs, H1, I1, r, z, q⟩ => ⟨by rw [← r.length]; exact z, ?_⟩)
  have hf : H1 s1.heap.objs.size = none := I1.hok.fresh (Nat.le_refl _)
  refine ⟨.ref s1.heap.objs.size, upd H1 s1.heap.objs.size (.tup xs), I1.laid (t' := s1.toks) (fun b u e => Heap.get?_push_of_some _ e) (Nat.le_refl _) ?_, rfl, q _ hf⟩
  exact ⟨z, us, r, ⟨_, Heap.get?_push_size _ rfl, rfl, _, rfl⟩⟩
theorem pe_lst (h : PA X es t) : PE X (.List es pos) (tLst t) := by
  intro pins s σ H Q I hq
  refine wpAny_List_spliced (thn (h pos pins s σ H _ I hq) fun us s1 ⟨xs, H1, I1, r, z, q⟩ => ⟨by rw [← r.length]; exact z, ?_⟩)
  have hf : H1 s1.heap.objs.size = none := I1.hok.fresh (Nat.le_refl _)
  refine ⟨.ref s1.heap.objs.size, upd H1 s1.heap.objs.size (.lst xs), I1.laid (t' := s1.toks) (fun b u e => Heap.get?_push_of_some _ e) (Nat.le_refl _) ?_, rfl, q _ hf⟩
  exact ⟨z, us, 0, r, Heap.get?_push_size _ rfl⟩
end
abbrev Sp := List V → Hp → VK → XK → Prop
abbrev CXT := List Env → Hp → Shared → XK → Value → Shared → Prop
structure Env0 (P : Program) (w : World) (K : PySem.W.Frag) (mg : Str → Option Value) (base : Heap) (A : Around) (outer : List Env) (s : Shared) (H : Hp) : Prop where
  frames : A.frames = some outer
  mod : Mod K mg base
  bs : ∀ b o, base.get? b = some o → s.heap.get? b = some o ∧ H b = none
  bsz : base.objs.size ≤ s.heap.objs.size
  funs : s.heap.FunFrames base outer
  frf : ∀ b ∈ frs outer, H b = none
  hok : HOk P w H s.heap
  bare : AllBare s.gens
def CE (outer : List Env) (P : Program) (w : World) (H : Hp) (s : Shared) (Q : VK) (u : Value) (s' : Shared) : Prop :=
  ∃ v H', s'.os = s.os ∧ AllBare s'.gens ∧ Un (frs outer) [] H H' s.heap s'.heap ∧ HOk P w H' s'.heap ∧ RelV v u ∧ Q v H'
def CR (CX : CXT) (outer : List Env) (P : Program) (w : World) (H : Hp) (s : Shared) (Q : VK) (E : XK) (r : Result) (s' : Shared) : Prop :=
  match r with
  | .ok (.ret u) => CE outer P w H s Q u s'
  | .ok _ => False
  | .error e => CX outer H s E e s'
structure FnOk (P : Program) (w : World) (K : PySem.W.Frag) (mg : Str → Option Value) (base : Heap) (CX : CXT) (k : Nat) (f : Addr) (fd : FuncData) (ps : List Str) (sp : Sp) : Prop where
  len : ∀ vs H Q E, sp vs H Q E → vs.length = ps.length
  run : ∀ (A : Around) (outer : List Env) (s : Shared) (H : Hp) (args : Args) (us : List Value) (vs : List V) (Q : VK) (E : XK), Room k A → Env0 P w K mg base A outer s H → BindsTo s fd args (ps.zip us) → Vals vs us → sp vs H Q E →
    codeAny (model P w) A (.call (.ref f) args) (CR CX outer P w H s Q E) s
theorem FnOk.mono {P : Program} {w : World} {K : PySem.W.Frag} {mg : Str → Option Value} {base : Heap} {CX : CXT} {j k : Nat} {f : Addr} {fd : FuncData} {ps : List Str} {sp : Sp} (F : FnOk P w K mg base CX j f fd ps sp) (h : j ≤ k) :
    FnOk P w K mg base CX k f fd ps sp := ⟨F.len, fun A outer s H args us vs Q E hr => F.run A outer s H args us vs Q E (hr.mono h)⟩
theorem FnOk.imp {P : Program} {w : World} {K : PySem.W.Frag} {mg : Str → Option Value} {base : Heap} {CX : CXT} {k : Nat} {f : Addr} {fd : FuncData} {ps : List Str} {sp sp' : Sp} (F : FnOk P w K mg base CX k f fd ps sp)
    (h : ∀ vs H Q E, sp' vs H Q E → sp vs H Q E) : FnOk P w K mg base CX k f fd ps sp' :=
  ⟨fun vs H Q E q => F.len vs H Q E (h _ _ _ _ q), fun A outer s H args us vs Q E hr he hb hv hs => F.run A outer s H args us vs Q E hr he hb hv (h _ _ _ _ hs)⟩
theorem Env0.make {P : Program} {w : World} {K : PySem.W.Frag} {mg : Str → Option Value} {base : Heap} {A : Around} {outer : List Env} {s : Shared} {H : Hp} (e : Env0 P w K mg base A outer s H) (C : Addr) (us : List Value) (kw : List (Str × Value)) :
    Env0 P w K mg base (A.under (.builtin "type.__call__" ⟨.ref C :: us, kw⟩)) outer s H := ⟨by first | exact e.frames | (simpa [Around.under, Code.envs, Code.isFrame, pushEnvs] using e.frames), e.mod, e.bs, e.bsz, e.funs, e.frf, e.hok, e.bare⟩
section
variable {X : Cx} {pins : List (Addr × Obj)} {σ : St} {H : Hp} {s s' : Shared}
theorem Inv.env0 (I : Inv X pins σ H s) : Env0 X.prog X.w X.K X.mg X.base X.A X.stack s H :=
  ⟨I.ok.frames, I.ok.mod, I.bs, Nat.le_trans I.ok.bsz I.sz, I.stack, I.stkFree, I.hok, I.bare⟩
theorem Inv.after {Q : VK} {u : Value} (I : Inv X pins σ H s) (h : CE X.stack X.prog X.w H s Q u s') : EP X pins σ Q u s' := by
  obtain ⟨v, H', os, bare, un, hok, r, q⟩ := h
  obtain ⟨hh, g, d, t, os'⟩ := s'
  obtain rfl : os' = s.os := os
  exact ⟨v, H', I.call (h' := hh) (g' := g) (d' := d) (t' := t) (ch := []) un hok bare (fun b z => absurd z (by simp)), r, q⟩
end
def tCall (sp : Sp) (dvs : List V) (E : XK) (t : TA) : TE := fun σ H Q => t σ H fun vs H1 => sp (vs ++ dvs) H1 Q E
def tMeth (C : Addr) (m : Str) (sp : Sp) (dvs : List V) (E : XK) (ta : TE) (t : TA) : TE := fun σ H Q => ta σ H fun x H1 => ∃ a dx fs, x = .ref a ∧ H1 a = some (.ins C dx fs) ∧ fs.lookup m = none ∧
  t σ H1 fun vs H2 => sp (x :: (vs ++ dvs)) H2 Q E
def tMake (C : Addr) (sp : Sp) (dvs : List V) (E : XK) (t : TA) : TE := fun σ H Q => t σ H fun vs H1 => ∀ x dx, H1 x = none → H1 dx = none → dx ≠ x →
  sp (.ref x :: (vs ++ dvs)) (upd (upd H1 dx (.own x)) x (.ins C dx [])) (fun v H2 => v = .non ∧ Q (.ref x) H2) E
def Binds (K : PySem.W.Frag) (fd : FuncData) (ps : List Str) (ds : List Value) : Prop :=
  ∀ (s : Shared) (us : List Value), K.In s.heap → (us ++ ds).length = ps.length → BindsTo s fd ⟨us, []⟩ (ps.zip (us ++ ds))
theorem Binds.all {K : PySem.W.Frag} {fd : FuncData} {ps : List Str} (h : ∀ us : List Value, us.length = ps.length → bindArgs fd ⟨us, []⟩ = pure (ps.zip us)) : Binds K fd ps [] := fun s us _ hl => by
  rw [List.append_nil] at hl ⊢
  exact .of_eq (h us hl)
def Passes (CX : CXT) (X : Cx) (E : XK) : Prop := ∀ (pins : List (Addr × Obj)) (σ : St) (H : Hp) (s : Shared) (e : Value) (s' : Shared), Inv X pins σ H s → CX X.stack H s E e s' → X.xe e s'
section
variable {X : Cx} {CX : CXT} {k : Nat} {f C : Addr} {fd : FuncData} {ps : List Str} {sp : Sp} {dvs : List V} {ds : List Value} {E : XK} {x m : Str} {p pos apos : Pos} {e o : Expr} {es : List Expr} {ta : TE} {t : TA}
theorem run_fn {pins : List (Addr × Obj)} {σ : St} {H : Hp} {s : Shared} {Q : VK} {us : List Value} {vs : List V} (F : FnOk X.prog X.w X.K X.mg X.base CX k f fd ps sp) (hr : Room k X.A) (hb : Binds X.K fd ps ds) (hd : Vals dvs ds) (hx : Passes CX X E)
    (I : Inv X pins σ H s) (r : Vals vs us) (h : sp (vs ++ dvs) H Q E) : wpAny (model X.prog X.w) X.A (call (.ref f) us) (EP X pins σ Q) X.xe s := by
  have r2 : Vals (vs ++ dvs) (us ++ ds) := r.append hd
  have hl : (us ++ ds).length = ps.length := by rw [← r2.length]; exact F.len _ _ _ _ h
  refine wpAny_call (codeAny_mono (F.run X.A X.stack s H ⟨us, []⟩ (us ++ ds) (vs ++ dvs) Q E hr I.env0 (hb s us I.kIn hl) r2 h) fun r s' hq => ?_)
  cases r with
  | error e => exact hx pins σ H s e s' I hq
  | ok fl =>
    cases fl with
    | ret u => exact I.after hq
    | next => exact False.elim hq
    | brk => exact False.elim hq
    | cont => exact False.elim hq
theorem pe_call (F : FnOk X.prog X.w X.K X.mg X.base CX k f fd ps sp) (hr : Room k X.A) (hg : Gl X x) (hm : X.mg x = some (.ref f)) (hk : PySem.W.keepIn X.K (.ref f) = true) (hb : Binds X.K fd ps ds) (hd : Vals dvs ds) (hx : Passes CX X E)
    (ha : PA X (e :: es) t) (hdb : (x == ("__debug__" : Str)) = false := by decide) (he : starEach (e :: es) X.env = (false, eval e X.env) :: starEach es X.env := by rfl) (hpl : (backTo pos (starEach es X.env)).any (·.1) = false := by rfl) :
    PE X (.Call (.Name x p) (e :: es) [] pos) (tCall sp dvs E t) := by
  intro pins s σ H Q I h
  refine wpAny_Call_Name_kw (ld_glob I hg hm ?_ hdb)
  refine PySem.W.callWith_K (h₀ := X.base) I.ok.mod.kin hk (thn (ha pos pins s σ H _ I h) fun us s1 ⟨vs, H1, I1, r, q⟩ => ⟨I1.kIn, ?_⟩) he hpl
  exact run_fn F hr hb hd hx I1 r q
theorem pe_meth {pl : Sem Bool} (he : PE X o ta) (c : Cls X.K C) (hm : Meth X.K C m f) (F : FnOk X.prog X.w X.K X.mg X.base CX k f fd ps sp) (hr : Room k X.A) (hb : Binds X.K fd ps ds) (hd : Vals dvs ds) (hx : Passes CX X E) (ha : PA X (e :: es) t)
    (hst : starEach (e :: es) X.env = (false, eval e X.env) :: starEach es X.env := by rfl) (hpl : (backTo pos (starEach es X.env)).any (·.1) = false := by rfl)
    (ht : eval (.Call (.Attribute o m apos) (e :: es) [] pos) X.env = (do
      let ov ← eval o X.env
      standAt apos.atName
      let (f, first) ← holding [ov] (getMethod ov m pl)
      callWith pos f first (backTo pos (starEach (e :: es) X.env)) (backToKw pos (keywordEach [] X.env))) := by rfl) :
    PE X (.Call (.Attribute o m apos) (e :: es) [] pos) (tMeth C m sp dvs E ta t) := by
  intro pins s σ H Q I h
  refine PySem.W.methodCall_KW (pl := pl) (thn (he pins s σ H _ I h) fun u s1 ⟨x, H1, I1, rx, a, dx, fs, ex, ea, l, q⟩ => ?_) ht
  subst ex
  obtain rfl : u = Value.ref a := rx
  refine getmeth_ok I1 ea c hm l ?_
  refine PySem.W.callWith_K (first := [.ref a]) (h₀ := X.base) I.ok.mod.kin hm.kp (thn (ha pos pins s1 σ H1 _ I1 q) fun us s2 ⟨vs, H2, I2, r, q2⟩ => ⟨I2.kIn, ?_⟩) hst hpl
  exact run_fn (us := .ref a :: us) (vs := .ref a :: vs) F hr hb hd hx I2 (.cons rfl r) q2
theorem pe_meth0 {pl : Sem Bool} (he : PE X o ta) (c : Cls X.K C) (hm : Meth X.K C m f) (F : FnOk X.prog X.w X.K X.mg X.base CX k f fd ps sp) (hr : Room k X.A) (hb : Binds X.K fd ps ds) (hd : Vals dvs ds) (hx : Passes CX X E)
    (ht : eval (.Call (.Attribute o m apos) [] [] pos) X.env = (do
      let ov ← eval o X.env
      standAt apos.atName
      let (f, first) ← holding [ov] (getMethod ov m pl)
      callWith pos f first (backTo pos (starEach [] X.env)) (backToKw pos (keywordEach [] X.env))) := by rfl) :
    PE X (.Call (.Attribute o m apos) [] [] pos) (tMeth C m sp dvs E ta tNil) := by
  intro pins s σ H Q I h
  refine PySem.W.methodCall_KW (pl := pl) (thn (he pins s σ H _ I h) fun u s1 ⟨x, H1, I1, rx, a, dx, fs, ex, ea, l, q⟩ => ?_) ht
  subst ex
  obtain rfl : u = Value.ref a := rx
  refine getmeth_ok I1 ea c hm l ?_
  exact PySem.W.callWith_K0 (first := [.ref a]) I1.kIn hm.kp (run_fn (us := [.ref a]) (vs := [.ref a]) F hr hb hd hx I1 (.cons rfl .nil) q)
structure Mk (K : PySem.W.Frag) (C f : Addr) : Prop where
  makes : PySem.W.makesIn K C = true
  init : PySem.W.findIn K (.ref C) "__init__" = some (some (.ref f))
  fn : PySem.W.isFn K (.ref f) = true
  kp : PySem.W.keepIn K (.ref C) = true
theorem run_make {pins : List (Addr × Obj)} {σ : St} {H : Hp} {s : Shared} {Q : VK} {us : List Value} {vs : List V} (M : Mk X.K C f) (F : FnOk X.prog X.w X.K X.mg X.base CX k f fd ps sp) (hr : Room (k + 1) X.A) (hb : Binds X.K fd ps ds) (hd : Vals dvs ds)
    (hx : Passes CX X E) (I : Inv X pins σ H s) (r : Vals vs us)
    (h : ∀ x dx, H x = none → H dx = none → dx ≠ x → sp (.ref x :: (vs ++ dvs)) (upd (upd H dx (.own x)) x (.ins C dx [])) (fun v H2 => v = .non ∧ Q (.ref x) H2) E) :
    wpAny (model X.prog X.w) X.A (call (.ref C) us) (EP X pins σ Q) X.xe s := by
  have hq := h (s.heap.objs.size + 1) s.heap.objs.size (I.hok.fresh (Nat.le_succ _)) (I.hok.fresh (Nat.le_refl _)) (Nat.ne_of_lt (Nat.lt_succ_self _))
  have I2 := Inv.made (C := C) I
  have r2 : Vals (V.ref (s.heap.objs.size + 1) :: (vs ++ dvs)) (Value.ref (s.heap.objs.size + 1) :: (us ++ ds)) := .cons rfl (r.append hd)
  have hl : (Value.ref (s.heap.objs.size + 1) :: us ++ ds).length = ps.length := by
    have e := r2.length
    rw [F.len _ _ _ _ hq] at e
    exact e.symm
  refine wpAny_call (make_map (f := f) I.kIn M.makes M.init (beq_iff_eq.mp M.fn) (codeAny_mono (F.run _ X.stack _ _ ⟨Value.ref (s.heap.objs.size + 1) :: us, []⟩ (Value.ref (s.heap.objs.size + 1) :: (us ++ ds)) _ _ E (hr.make C us [])
    (I2.env0.make C us []) (hb _ (Value.ref (s.heap.objs.size + 1) :: us) I2.kIn hl) r2 hq) fun r s' hq' => ?_))
  cases r with
  | error e => exact hx pins σ _ _ e s' I2 hq'
  | ok fl =>
    cases fl with
    | ret u =>
      obtain ⟨v, H', I3, rv, ev, q3⟩ := I2.after hq'
      subst ev
      exact ⟨rv, ⟨V.ref (s.heap.objs.size + 1), H', I3, rfl, q3⟩⟩
    | next => exact False.elim hq'
    | brk => exact False.elim hq'
    | cont => exact False.elim hq'
theorem pe_make (M : Mk X.K C f) (F : FnOk X.prog X.w X.K X.mg X.base CX k f fd ps sp) (hr : Room (k + 1) X.A) (hg : Gl X x) (hm : X.mg x = some (.ref C)) (hb : Binds X.K fd ps ds) (hd : Vals dvs ds) (hx : Passes CX X E)
    (ha : PA X (e :: es) t) (hdb : (x == ("__debug__" : Str)) = false := by decide) (he : starEach (e :: es) X.env = (false, eval e X.env) :: starEach es X.env := by rfl) (hpl : (backTo pos (starEach es X.env)).any (·.1) = false := by rfl) :
    PE X (.Call (.Name x p) (e :: es) [] pos) (tMake C sp dvs E t) := by
  intro pins s σ H Q I h
  refine wpAny_Call_Name_kw (ld_glob I hg hm ?_ hdb)
  refine PySem.W.callWith_K (h₀ := X.base) I.ok.mod.kin M.kp (thn (ha pos pins s σ H _ I h) fun us s1 ⟨vs, H1, I1, r, q⟩ => ⟨I1.kIn, ?_⟩) he hpl
  exact run_make M F hr hb hd hx I1 r q
end
section
variable {X : Cx} {CX : CXT} {k : Nat} {f C : Addr} {fd : FuncData} {ps ks : List Str} {sp : Sp} {E : XK} {x m : Str} {p pos apos kpos : Pos} {e o : Expr} {es : List Expr} {kws : List Keyword} {te ta : TE} {t tk : TA} {nm : Option Str}
variable {g : List Value → List Value → List Value} {gV : List V → List V → List V}
end
structure FnScope (N P : List Str) (sc : Scope) : Prop where
  kind : sc.kind = .function
  co : sc.isCoroutine = false
  gen : sc.isGenerator = false
  nd : N.Nodup
  pre : N.take P.length = P
  par : ∀ x ∈ P, sc.names.lookup x = some .local ∨ sc.names.lookup x = some .cell
  nofree : ∀ y ∈ sc.names, y.2 ≠ .free
theorem bindL_out {kindOf : Str → Option NameKind} {x : Str} : ∀ {binds : List (Str × Value)} {m : Str → Option Value}, (∀ v, (x, v) ∉ binds) → bindL kindOf binds m x = m x
  | [], _, _ => rfl
  | (n, v) :: r, m, h => by
    unfold bindL
    rw [bindL_out fun w hw => h w (List.mem_cons_of_mem _ hw)]
    split
    · have : x ≠ n := by rintro rfl; exact h v List.mem_cons_self
      simp [this]
    · rfl
theorem bindC_out {kindOf : Str → Option NameKind} {x : Str} : ∀ {binds : List (Str × Value)} {m : Str → Option Value}, (∀ v, (x, v) ∉ binds) → bindC kindOf binds m x = m x
  | [], _, _ => rfl
  | (n, v) :: r, m, h => by
    unfold bindC
    rw [bindC_out fun w hw => h w (List.mem_cons_of_mem _ hw)]
    split
    · rfl
    · have : x ≠ n := by rintro rfl; exact h v List.mem_cons_self
      simp [this]
theorem bindL_get {kindOf : Str → Option NameKind} {x : Str} {v : Value} : ∀ {P : List Str} {vs : List Value} {i : Nat} {m : Str → Option Value}, P.Nodup → P[i]? = some x → vs[i]? = some v → kindOf x = some .local →
    bindL kindOf (P.zip vs) m x = some v
  | [], _, _, _, _, h, _, _ => by simp at h
  | _ :: _, [], _, _, _, _, h, _ => by simp at h
  | p :: P, w :: vs, 0, m, nd, h1, h2, hk => by
    simp at h1 h2; subst h1; subst h2
    show bindL kindOf ((p, w) :: P.zip vs) m p = _
    unfold bindL
    rw [bindL_out fun v hv => (List.nodup_cons.mp nd).1 (List.of_mem_zip hv).1, if_pos hk]
    simp
  | p :: P, w :: vs, i + 1, m, nd, h1, h2, hk => by
    show bindL kindOf ((p, w) :: P.zip vs) m x = _
    unfold bindL
    exact bindL_get (i := i) (List.nodup_cons.mp nd).2 (by simpa using h1) (by simpa using h2) hk
theorem bindC_get {kindOf : Str → Option NameKind} {x : Str} {v : Value} : ∀ {P : List Str} {vs : List Value} {i : Nat} {m : Str → Option Value}, P.Nodup → P[i]? = some x → vs[i]? = some v → kindOf x ≠ some .local →
    bindC kindOf (P.zip vs) m x = some v
  | [], _, _, _, _, h, _, _ => by simp at h
  | _ :: _, [], _, _, _, _, h, _ => by simp at h
  | p :: P, w :: vs, 0, m, nd, h1, h2, hk => by
    simp at h1 h2; subst h1; subst h2
    show bindC kindOf ((p, w) :: P.zip vs) m p = _
    unfold bindC
    rw [bindC_out fun v hv => (List.nodup_cons.mp nd).1 (List.of_mem_zip hv).1, if_neg hk]
    simp
  | p :: P, w :: vs, i + 1, m, nd, h1, h2, hk => by
    show bindC kindOf ((p, w) :: P.zip vs) m x = _
    unfold bindC
    exact bindC_get (i := i) (List.nodup_cons.mp nd).2 (by simpa using h1) (by simpa using h2) hk
def start (N : List Str) (vs : List V) : St := vs.map some ++ List.replicate (N.length - vs.length) none
def cxOf (CX : CXT) (P : Program) (w : World) (K : PySem.W.Frag) (mg : Str → Option Value) (base : Heap) (N : List Str) (qual : Str) (scope : Scope) (f : Addr) (cd : Value) (A : Around) (outer : List Env) (s : Shared) (H : Hp) (E : XK) : Cx where
  prog := P
  w := w
  K := K
  mg := mg
  base := base
  A := A.deeper (envOfC qual scope s.heap.objs.size f cd)
  N := N
  s₀ := s
  H₀ := H
  env := envOfC qual scope s.heap.objs.size f cd
  outer := outer
  stack := envOfC qual scope s.heap.objs.size f cd :: outer
  ex := []
  calm := true
  fn := fun _ => true
  pn := []
  xe := fun e s' => wpAny (model P w) (A.deeper (envOfC qual scope s.heap.objs.size f cd)) (leaving (envOfC qual scope s.heap.objs.size f cd) e) (fun _ s'' => CX outer H s E e s'') (fun e' s'' => CX outer H s E e' s'') s'
theorem cell_has {sc : Scope} {n : Nat} {x : Str} (h : sc.names.lookup x = some .cell) : ∃ c, (cellsFrom n sc.names []).lookup x = some c := by
  have q := PySem.W.cellsFrom_some sc.names n [] (.inl h)
  exact Option.isSome_iff_exists.mp q
theorem inv_start {CX : CXT} {P : Program} {w : World} {K : PySem.W.Frag} {mg : Str → Option Value} {base : Heap} {N ps : List Str} {qual : Str} {scope : Scope} {f : Addr} {cd : Value} {A : Around} {outer : List Env} {s s1 : Shared} {H : Hp} {E : XK} {us : List Value} {vs : List V}
    (S : FnScope N ps scope) (hd : A.handled = none) (e0 : Env0 P w K mg base A outer s H) (hl : vs.length = ps.length) (r : Vals vs us)
    (x : InCallC s s.heap.objs.size (bindL (envOfC qual scope s.heap.objs.size f cd).kindOf (ps.zip us) fun _ => none) (cellsFrom (s.heap.objs.size + 1) scope.names []) (bindC (envOfC qual scope s.heap.objs.size f cd).kindOf (ps.zip us) fun _ => none) s1) :
    Inv (cxOf CX P w K mg base N qual scope f cd A outer s H E) [] (start N vs) H s1 := by
  have hpl : ps.length ≤ N.length := by have := congrArg List.length S.pre; rw [List.length_take] at this; omega
  obtain ⟨h1, tk, rfl, hk⟩ := x.done
  have noA : ∀ b : Addr, b ∉ (cxOf CX P w K mg base N qual scope f cd A outer s H E).ex := fun b z => absurd (show b ∈ ([] : List Addr) from z) (by simp)
  refine ⟨⟨e0.mod, S.kind, rfl, rfl, Nat.le_refl _, fun y z c h1 h2 => ?_, fun y hy => ?_, fun y c _ h => ?_, fun _ => hd, Around.frames_deeper e0.frames, .inr ⟨rfl, rfl⟩, fun b z => absurd z (noA b), e0.bs, e0.bsz, fun b _ _ => noA b, fun b z => absurd z (noA b), e0.funs, e0.frf⟩,
    rfl, e0.bare, Un.kept hk, ⟨_, x.toInCall.ns, fun i y v h1 h2 h3 => ?_⟩, fun y c h => ⟨_, x.cell y c h⟩, e0.hok.fresh (Nat.le_refl _), fun y c h => ?_, fun p hp => absurd (show p ∈ ([] : List (Addr × Obj)) from hp) (by simp), e0.hok.kept hk, ?_⟩
  · exact name_of_addr x.apart (PySem.mem_of_lookup h1) (PySem.mem_of_lookup h2)
  · have hy : scope.names.lookup y = some .cell ∨ scope.names.lookup y = some .free := hy
    rcases hy with hy | hy
    · exact cell_has hy
    · exact absurd rfl (S.nofree _ (PySem.mem_of_lookup hy))
  · exact Nat.le_of_lt (x.above y c (PySem.mem_of_lookup h))
  · have hi : i < vs.length := by
      unfold start at h2
      by_cases hi : i < vs.length
      · exact hi
      · rw [List.getElem?_append_right (by simpa using hi)] at h2
        rw [List.getElem?_replicate] at h2
        split at h2 <;> cases h2
    have ha : vs[i]? = some v := by
      unfold start at h2
      rw [List.getElem?_append_left (by simpa using hi), List.getElem?_map] at h2
      cases e : vs[i]? with
      | none => rw [e] at h2; cases h2
      | some a => rw [e] at h2; cases h2; rfl
    obtain ⟨u, hu, rv⟩ := r.get ha
    have hp : ps[i]? = some y := by
      rw [← S.pre, List.getElem?_take_of_lt (by omega)]; exact h1
    have ndP : ps.Nodup := by rw [← S.pre]; exact S.nd.sublist (List.take_sublist _ _)
    refine ⟨u, rv, ?_⟩
    rcases S.par y (List.mem_of_getElem? hp) with k | k
    · exact .inl ⟨k, bindL_get ndP hp hu k⟩
    · obtain ⟨c, e⟩ := cell_has (n := s.heap.objs.size + 1) k
      refine .inr ⟨.inl k, c, e, ?_⟩
      have q := x.cell y c e
      rw [bindC_get ndP hp hu (by show scope.names.lookup y ≠ _; rw [k]; decide)] at q
      exact q
  · exact e0.hok.fresh (Nat.le_of_lt (x.above y c (PySem.mem_of_lookup h)))
  · unfold start
    show _ = N.length
    rw [List.length_append, List.length_map, List.length_replicate]
    omega
theorem fn_of {CX : CXT} {P : Program} {w : World} {K : PySem.W.Frag} {mg : Str → Option Value} {base : Heap} {k : Nat} {f : Addr} {name qual : Str} {params : Arguments} {body : List Stmt} {scope : Scope} {dV kV doc pm cdv ct oc : Value} {an od : Option Addr}
    {osl : Array (Option Value)} {N ps : List Str} {sp : Sp} (lk : K.lookup f = some ⟨oc, od, .func (PySem.W.fnOf name qual params body scope dV kV doc pm an cdv ct), osl⟩) (hcd : PySem.W.codeIn K cdv qual = true) (S : FnScope N ps scope)
    (len : ∀ vs H Q E, sp vs H Q E → vs.length = ps.length)
    (hbody : ∀ (A : Around) (outer : List Env) (s : Shared) (H : Hp) (vs : List V) (Q : VK) (E : XK), Room k (A.deeper (envOfC qual scope s.heap.objs.size f cdv)) → sp vs H Q E →
      ∃ t, PSs (cxOf CX P w K mg base N qual scope f cdv A outer s H E) body t ∧ t { nx := fun _ H' => Q .non H', rt := Q } (start N vs) H) :
    FnOk P w K mg base CX (k + 1) f (PySem.W.fnOf name qual params body scope dV kV doc pm an cdv ct) ps sp := by
  refine ⟨len, fun A outer s H args us vs Q E hr e0 hb r hsp => ?_⟩
  have hl := len _ _ _ _ hsp
  have KX : K.In s.heap := e0.mod.kin.keeps fun b o e => (e0.bs b o e).1
  have lim : s.heap.NoLimit := e0.mod.nolimit.keeps fun b o e => (e0.bs b o e).1
  have hkind : ∀ y ∈ ps.zip us, scope.names.lookup y.1 = some .local ∨ (scope.names.lookup y.1 = some .cell ∧ ((cellsFrom (s.heap.objs.size + 1) scope.names []).lookup y.1).isSome = true) := fun ⟨n, v⟩ hy => by
    rcases S.par n (List.of_mem_zip hy).1 with q | q
    · exact .inl q
    · exact .inr ⟨q, PySem.W.cellsFrom_some _ _ _ (.inl q)⟩
  refine codeAny_call_function hr.depth (KX _ _ lk) rfl S.co S.gen rfl (PySem.W.codeRec_of KX hcd) (hb _ _ _ _ ?_)
  refine wpAny_newFunctionEnv_cells S.kind hkind fun env he s1 x => ?_
  subst he
  refine ⟨lim.keeps x.toInCall.keep, codeAny_func ?_⟩
  obtain ⟨t, ht, hq⟩ := hbody A outer s H vs Q E (hr.deeper _) hsp
  have I : Inv (cxOf CX P w K mg base N qual scope f cdv A outer s H E) [] (start N vs) H s1 := inv_start S hr.hd e0 hl r x
  refine wpAny_mono (ht [] s1 (start N vs) H _ I hq) (fun fl s' hs => ?_) fun e s' hs => hs
  have fin : ∀ {σ' : St} {H' : Hp} {v : V} {u : Value}, Inv (cxOf CX P w K mg base N qual scope f cdv A outer s H E) [] σ' H' s' → RelV v u → Q v H' → CE outer P w H s Q u s' :=
    fun {σ' H' v u} J rv q => ⟨v, H', J.os, J.bare, J.base, J.hok, rv, q⟩
  cases fl with
  | ret u =>
    obtain ⟨v, σ', H', J, rv, q⟩ := hs
    exact fin J rv q
  | next =>
    obtain ⟨σ', H', J, q⟩ := hs
    exact fin (v := V.non) (u := Value.none) J rfl q
  | brk =>
    obtain ⟨_, _, _, q⟩ := hs
    exact False.elim q
  | cont =>
    obtain ⟨_, _, _, q⟩ := hs
    exact False.elim q
end L2
namespace L2
open PySem PySem.Spec PyProof.Rows
section
variable {X : Cx} {x : Str} {p pos : Pos} {e : Expr} {es : List Expr} {t : TA} {id T : String} {r : List V → Hp → VK → Prop}
def tCB (r : List V → Hp → VK → Prop) (t : TA) : TE := fun σ H Q => t σ H fun vs H1 => r vs H1 Q
theorem pe_callB (hc : CallR X (.builtin id) r) (hg : Gl X x) (hm : X.mg x = none) (hv : bootBuiltins x = some (.builtin id)) (ha : PA X (e :: es) t) (hn : x ≠ "__name__" := by decide) (hdb : (x == ("__debug__" : Str)) = false := by decide)
    (he : starEach (e :: es) X.env = (false, eval e X.env) :: starEach es X.env := by rfl) (hpl : (backTo pos (starEach es X.env)).any (·.1) = false := by rfl) : PE X (.Call (.Name x p) (e :: es) [] pos) (tCB r t) := by
  intro pins s σ H Q I h
  refine wpAny_Call_Name_kw (ld_blt I hg hm hv ?_ hn hdb)
  exact PyProof.Rows.callWith_builtin1 (thn (ha pos pins s σ H _ I h) fun us s1 ⟨vs, H1, I1, r1, q1⟩ => hc pins s1 σ H1 vs us Q I1 r1 q1) he hpl
theorem pe_callTy (hc : CallR X (.type T) r) (hg : Gl X x) (hm : X.mg x = none) (hv : bootBuiltins x = some (.type T)) (ha : PA X (e :: es) t) (hn : x ≠ "__name__" := by decide) (hdb : (x == ("__debug__" : Str)) = false := by decide)
    (he : starEach (e :: es) X.env = (false, eval e X.env) :: starEach es X.env := by rfl) (hpl : (backTo pos (starEach es X.env)).any (·.1) = false := by rfl) : PE X (.Call (.Name x p) (e :: es) [] pos) (tCB r t) := by
  intro pins s σ H Q I h
  refine wpAny_Call_Name_kw (ld_blt I hg hm hv ?_ hn hdb)
  exact PyProof.Rows.callWith_type1 (thn (ha pos pins s σ H _ I h) fun us s1 ⟨vs, H1, I1, r1, q1⟩ => hc pins s1 σ H1 vs us Q I1 r1 q1) he hpl
end
end L2
namespace HT
open PySem PyProof.Rows
section
open PySem.SeqAt
open PySem.AutoSeq1 (wpAny_loadPart')
open PySem.MeetsSeq PySem.MeetsSeq2 PySem.MeetsSeq3
end
section
variable {prog : Program} {w : World} {A : Around} {E : Value → Shared → Prop} {s : Shared}
def sIx (n d : Nat) : Option Int → Nat
  | none => d
  | some v => if v < 0 then (v + (n : Int)).toNat else min v.toNat n
theorem sIx_nat (n d k : Nat) : sIx n d (some (k : Int)) = min k n := by
  show (if (k : Int) < 0 then ((k : Int) + (n : Int)).toNat else min (k : Int).toNat n) = min k n
  rw [if_neg (by omega), Int.toNat_natCast]
theorem sIx_le (n d : Nat) (hd : d ≤ n) (o : Option Int) : sIx n d o ≤ n := by
  cases o with
  | none => exact hd
  | some v =>
    show (if v < 0 then (v + (n : Int)).toNat else min v.toNat n) ≤ n
    by_cases hv : v < 0
    · rw [if_pos hv]; omega
    · rw [if_neg hv]; exact Nat.min_le_right _ _
theorem clip_eq (v : Int) (n d : Nat) : (if v < 0 then max (v + (n : Int)) 0 else min v (n : Int)) = ((sIx n d (some v) : Nat) : Int) := by
  show (if v < 0 then max (v + (n : Int)) 0 else min v (n : Int)) = (((if v < 0 then (v + (n : Int)).toNat else min v.toNat n) : Nat) : Int)
  by_cases hv : v < 0
  · simp only [if_pos hv]; omega
  · simp only [if_neg hv]; omega
theorem adjust_gen (lo hi : Option Int) (n : Nat) : Builtin.Slice.sliceAdjust lo hi 1 (n : Int) = (((sIx n 0 lo : Nat) : Int), ((sIx n n hi : Nat) : Int)) := by
  have h1 : ¬ ((1 : Int) < 0) := by omega
  unfold Builtin.Slice.sliceAdjust
  simp only [h1, if_false]
  refine Prod.ext ?_ ?_
  · cases lo with
    | none => rfl
    | some v => exact clip_eq v n 0
  · cases hi with
    | none => rfl
    | some v => exact clip_eq v n n
theorem places_gen (i j : Nat) : Builtin.Slice.slicePlaces (i : Int) (j : Int) 1 = j - i := by
  unfold Builtin.Slice.slicePlaces
  have h1 : (1 : Int) > 0 := by omega
  simp only [h1, if_true, Int.ediv_one]
  split <;> omega
theorem slicePart_ {v : Value} {o : Option Int} {Q : Option Int → Shared → Prop} (p : IsPart v o) (h : Q o s) : wpAny (model prog w) A (Builtin.Slice.slicePartIndex v) Q E s := by
  cases p with
  | none => exact slicePart_none h
  | int i t => exact slicePart_int h
theorem sliceApplied_gen {sl : Addr} {vl vu : Value} {lo hi : Option Int} {n : Nat} {Q : Int × Int × Nat → Shared → Prop} (hs : s.heap.IsSliceOf sl vl vu .none) (pl : IsPart vl lo) (pu : IsPart vu hi)
    (h : Q (((sIx n 0 lo : Nat) : Int), 1, sIx n n hi - sIx n 0 lo) s) : wpAny (model prog w) A (Builtin.Slice.sliceApplied (.ref sl) (pure (n : Int))) Q E s := by
  obtain ⟨os, hos, hcs, hds⟩ := id hs
  unfold Builtin.Slice.sliceApplied Builtin.Slice.sliceFields
  refine wpAny_bind (wpAny_bind (wpAny_field hos hds (x := vl) rfl (wpAny_bind (wpAny_field hos hds (x := vu) rfl (wpAny_bind (wpAny_field hos hds (x := .none) rfl (wpAny_pure ?_)))))))
  refine wpAny_bind (slicePart_none ?_)
  show wpAny _ _ (if ((1 : Int) == 0) = true then _ else _) _ _ s
  rw [if_neg (by decide)]
  refine wpAny_bind (slicePart_ pl (wpAny_bind (slicePart_ pu (wpAny_bind (wpAny_pure ?_)))))
  show wpAny _ _ (match Builtin.Slice.sliceAdjust lo hi 1 (n : Int) with | (lo, hi) => pure (lo, (1 : Int), Builtin.Slice.slicePlaces lo hi 1)) _ _ s
  rw [adjust_gen lo hi n]
  show wpAny _ _ (pure (((sIx n 0 lo : Nat) : Int), (1 : Int), Builtin.Slice.slicePlaces ((sIx n 0 lo : Nat) : Int) ((sIx n n hi : Nat) : Int) 1)) _ _ s
  rw [places_gen]
  exact wpAny_pure h
theorem pick_gen (xs : Array Value) (i k : Nat) : ((List.range k).filterMap fun (m : Nat) => xs[((i : Int) + (m : Int) * 1).toNat]?).toArray = ((xs.toList.drop i).take k).toArray := by
  have e : (fun (m : Nat) => xs[((i : Int) + (m : Int) * 1).toNat]?) = fun m => xs[i + m]? := by
    funext m
    have : ((i : Int) + (m : Int) * 1).toNat = i + m := by omega
    rw [this]
  rw [e]
  have := pick_run xs i k
  rw [List.filterMap_map] at this
  have e2 : ((fun x => xs[x]?) ∘ fun x => i + x) = fun m => xs[i + m]? := rfl
  rw [e2] at this
  rw [this]
theorem getItem_tuple_cut {t sl : Addr} {items : Array Value} {vl vu : Value} {lo hi : Option Int} {Q : Value → Shared → Prop} (ht : IsTup s.heap t items) (hs : s.heap.IsSliceOf sl vl vu .none) (pl : IsPart vl lo) (pu : IsPart vu hi)
    (hw : ¬ (sIx items.size 0 lo = 0 ∧ sIx items.size items.size hi = items.size))
    (h : Q (.ref s.heap.objs.size) { s with heap := s.heap.push { cls := .type "tuple", data := .seq ((items.toList.drop (sIx items.size 0 lo)).take (sIx items.size items.size hi - sIx items.size 0 lo)).toArray } })
    (hsz : items.size ≤ sizeLine) : wpAny (model prog w) A (getItem (.ref t) (.ref sl)) Q E s := by
  have htake : sizeOk (.seq ((items.toList.drop (sIx items.size 0 lo)).take (sIx items.size items.size hi - sIx items.size 0 lo)).toArray) := by
    show ((items.toList.drop (sIx items.size 0 lo)).take (sIx items.size items.size hi - sIx items.size 0 lo)).toArray.size ≤ sizeLine
    rw [List.size_toArray, List.length_take, List.length_drop, Array.length_toList]
    omega
  have hj : sIx items.size items.size hi ≤ items.size := sIx_le _ _ (Nat.le_refl _) hi
  obtain ⟨os, hos, hcs, hds⟩ := id hs
  have hTs : s.TypeIs (.ref sl) "slice" := ⟨os, hos, hcs⟩
  unfold getItem
  try with_reducible refine wpAny_holding ?_
  first | refine wpAny_bind (wpAny_pure ?_) | skip
  refine wpAny_bind (wpAny_sequenceKey ht.typeIs (by decide) ?_)
  refine wpAny_bind (wpAny_callSpecial?_slot (name := Str.ofString "__getitem__") ht.typeIs PyProof.Rows.slot_tuple_getitem
    (wpAny_call_entry PyProof.Rows.slot_tuple_getitem ht.typeIs entry_tuple_getitem ?_ (args_tuple_getitem _ _)))
  show wpAny _ _ (Builtin.Tuple.tupleItemsOf (.ref t) >>= _) _ _ s
  refine wpAny_bind (tupleItemsOf_ ht ?_)
  refine wpAny_bind (wpAny_typeOf hTs ?_)
  rw [if_pos (by decide)]
  refine wpAny_bind (sliceApplied_gen hs pl pu ?_)
  have hno : ¬ ((((sIx items.size 0 lo : Nat) : Int) == 0 && (1 : Int) == 1 && (sIx items.size items.size hi - sIx items.size 0 lo) == items.size) = true) := by
    intro q
    rw [Bool.and_eq_true, Bool.and_eq_true] at q
    have q1 : ((sIx items.size 0 lo : Nat) : Int) = 0 := eq_of_beq q.1.1
    have q2 : sIx items.size items.size hi - sIx items.size 0 lo = items.size := eq_of_beq q.2
    exact hw ⟨by omega, by omega⟩
  show wpAny _ _ (if (((sIx items.size 0 lo : Nat) : Int) == 0 && (1 : Int) == 1 && (sIx items.size items.size hi - sIx items.size 0 lo) == items.size) = true then _ else _) _ _ s
  rw [if_neg hno, pick_gen]
  first
    | exact wpAny_bind (m := Builtin.Tuple.tupleExact _) (wpAny_newObj_type (wpAny_pure ⟨_, rfl, wpAny_pure h⟩) htake)
    | exact wpAny_bind (m := Builtin.Tuple.tupleExact _) (wpAny_newObj_type (wpAny_bind (wpAny_pure (wpAny_pure ⟨_, rfl, wpAny_pure h⟩))) htake)
    | exact wpAny_bind (wpAny_bind (m := Builtin.Tuple.tupleExact _) (wpAny_newObj_type (wpAny_pure (wpAny_pure ⟨_, rfl, wpAny_pure h⟩)) htake))
    | exact wpAny_bind (wpAny_bind (m := Builtin.Tuple.tupleExact _) (wpAny_newObj_type (wpAny_pure ⟨_, rfl, wpAny_pure h⟩) htake))
end
end HT
namespace L2
open PySem PySem.Spec PyProof.Rows
abbrev TO := St → Hp → (Option Int → Hp → Prop) → Prop
def PO (X : Cx) (e : Option Expr) (t : TO) : Prop :=
  ∀ (pins : List (Addr × Obj)) (s : Shared) (σ : St) (H : Hp) (Q : Option Int → Hp → Prop), Inv X pins σ H s → t σ H Q →
    wpAny (model X.prog X.w) X.A (evalPart e X.env) (fun u s' => ∃ o H', Inv X pins σ H' s' ∧ IsPart u o ∧ Q o H') X.xe s
def tNoPart : TO := fun _ H Q => Q none H
def tPart (t : TE) : TO := fun σ H Q => t σ H fun x H1 => ∃ i, x = .int i ∧ Q (some i) H1
section
variable {X : Cx} {e : Expr} {te : TE} {lo hi : Option Expr} {tl th : TO} {pos p2 : Pos}
theorem po_none : PO X none tNoPart := by
  intro pins s σ H Q I h
  rw [evalPart_none]
  exact wpAny_pure ⟨none, H, I, .none, h⟩
theorem po_some (h : PE X e te) : PO X (some e) (tPart te) := by
  intro pins s σ H Q I hw
  rw [evalPart_some]
  refine thn (h pins s σ H _ I hw) fun u s1 ⟨x, H1, I1, r1, q1⟩ => ?_
  obtain ⟨i, rfl, q⟩ := q1
  obtain ⟨t, rfl⟩ := r1
  exact ⟨some i, H1, I1, .int i t, q⟩
def SlR (X : Cx) (r : V → Option Int → Option Int → Hp → VK → Prop) : Prop :=
  ∀ (pins : List (Addr × Obj)) (s : Shared) (σ : St) (H : Hp) (x : V) (v vl vu : Value) (lo hi : Option Int) (sl : Addr) (Q : VK), Inv X pins σ H s → RelV x v → s.heap.IsSliceOf sl vl vu .none → IsPart vl lo → IsPart vu hi → r x lo hi H Q →
    ∃ T id, typeLookup (.type T) "__getitem__" = pure (some (.builtin id)) ∧ s.TypeIs v T ∧ wpAny (model X.prog X.w) X.A (getItem v (.ref sl)) (EP X pins σ Q) X.xe s
def tSl (r : V → Option Int → Option Int → Hp → VK → Prop) (te : TE) (tl th : TO) : TE := fun σ H Q => te σ H fun x H1 => tl σ H1 fun l H2 => th σ H2 fun u H3 => r x l u H3 Q
theorem pe_slice {r : V → Option Int → Option Int → Hp → VK → Prop} (hr : SlR X r) (he : PE X e te) (hl : PO X lo tl) (hu : PO X hi th) : PE X (.Subscript e (.Slice lo hi none p2) pos) (tSl r te tl th) := by
  intro pins s σ H Q I h
  refine Subscript_ (thn (he pins s σ H _ I h) fun v s1 ⟨x, H1, I1, r1, q1⟩ => ?_)
  refine wpAny_Slice (thn (hl pins s1 σ H1 _ I1 q1) fun vl s2 ⟨l, H2, I2, pl, q2⟩ => thn (hu pins s2 σ H2 _ I2 q2) fun vu s3 ⟨u, H3, I3, pu, q3⟩ => ?_)
  rw [evalPart_none]
  refine wpAny_pure ?_
  have I4 : Inv X pins σ H3 { s3 with heap := s3.heap.push { cls := .type "slice", data := .fields #[vl, vu, .none] } } := I3.kept (t' := s3.toks) fun b ob q => Heap.get?_push_of_some _ q
  obtain ⟨T, id, hT, ht, hg⟩ := hr pins { s3 with heap := s3.heap.push { cls := .type "slice", data := .fields #[vl, vu, .none] } } σ H3 x v vl vu l u s3.heap.objs.size Q I4 r1 (Heap.IsSliceOf.new ..) pl pu q3
  show wpAny (model X.prog X.w) X.A (subscriptTail e (.Slice lo hi none p2) v (.ref s3.heap.objs.size)) (EP X pins σ Q) X.xe { s3 with heap := s3.heap.push { cls := .type "slice", data := .fields #[vl, vu, .none] } }
  exact tail_any (ops := [.ref s3.heap.objs.size, v]) ht hT hg (by with_unfolding_all rfl)
def cutV (xs : List V) (lo hi : Option Int) : List V := (xs.drop (HT.sIx xs.length 0 lo)).take (HT.sIx xs.length xs.length hi - HT.sIx xs.length 0 lo)
theorem cutV_length (xs : List V) (lo hi : Option Int) : (cutV xs lo hi).length ≤ xs.length := by
  unfold cutV
  rw [List.length_take, List.length_drop]
  omega
def rSlT (K : PySem.W.Frag) : V → Option Int → Option Int → Hp → VK → Prop := fun x lo hi H Q => ∃ a xs, x = .ref a ∧ SqT K H a xs ∧
  ¬ (HT.sIx xs.length 0 lo = 0 ∧ HT.sIx xs.length xs.length hi = xs.length) ∧ ∀ p, H p = none → Q (.ref p) (upd H p (.tup (cutV xs lo hi)))
theorem sl_tup : SlR X (rSlT X.K) := by
  intro pins s σ H x v vl vu lo hi sl Q I rx hs pl pu h
  obtain ⟨a, xs, rfl, hx, hw, q⟩ := h
  cases rx
  obtain ⟨its, r, ht, hz⟩ := I.tuple hx
  have hlen : its.toArray.size = xs.length := by rw [List.size_toArray]; exact r.length.symm
  refine ⟨"tuple", _, PyProof.Rows.slot_tuple_getitem.lookup, ht.typeIs, ?_⟩
  refine HT.getItem_tuple_cut ht hs pl pu (by rw [hlen]; exact hw) ?_ (by rw [hlen]; exact hz)
  rw [hlen]
  refine ⟨.ref s.heap.objs.size, _, I.laid (t' := s.toks) (o := .tup (cutV xs lo hi)) (fun b ob q => Heap.get?_push_of_some _ q) (Nat.le_refl _) ?_, rfl, q _ (I.hok.fresh (Nat.le_refl _))⟩
  exact ⟨Nat.le_trans (cutV_length xs lo hi) hz, _, (r.drop (HT.sIx xs.length 0 lo)).take (HT.sIx xs.length xs.length hi - HT.sIx xs.length 0 lo), IsTup.new _ _⟩
end
end L2
namespace L2
open PySem PySem.Spec PyProof.Rows
def ixN (n : Nat) (i : Int) : Option Nat := if 0 ≤ i then (if i < n then some i.toNat else none) else if -(n : Int) ≤ i then some (i + n).toNat else none
def atI {α : Type} (xs : List α) (i : Int) : Option α := (ixN xs.length i).bind fun j => xs[j]?
theorem ixN_seq {n : Nat} {i : Int} {j : Nat} (h : ixN n i = some j) : seqIndex? i n = some j ∧ j < n ∧ -(n : Int) ≤ i ∧ i < n := by
  unfold ixN at h
  by_cases h0 : 0 ≤ i
  · rw [if_pos h0] at h
    by_cases h1 : i < n
    · rw [if_pos h1] at h
      have e : i.toNat = j := Option.some.inj h
      exact ⟨by rw [seqIndex_of h0 h1, e], by omega, by omega, h1⟩
    · rw [if_neg h1] at h; cases h
  · rw [if_neg h0] at h
    by_cases h1 : -(n : Int) ≤ i
    · rw [if_pos h1] at h
      have e : (i + n).toNat = j := Option.some.inj h
      exact ⟨by rw [seqIndex_neg (by omega) h1, e], by omega, h1, by omega⟩
    · rw [if_neg h1] at h; cases h
theorem atI_get {α : Type} {xs : List α} {i : Int} {v : α} (h : atI xs i = some v) : ∃ j, seqIndex? i xs.length = some j ∧ xs[j]? = some v ∧ j < xs.length ∧ -(xs.length : Int) ≤ i ∧ i < xs.length := by
  unfold atI at h
  cases e : ixN xs.length i with
  | none => rw [e] at h; cases h
  | some j =>
    rw [e] at h
    obtain ⟨h1, h2, h3, h4⟩ := ixN_seq e
    exact ⟨j, h1, h, h2, h3, h4⟩
theorem atI_nat {α : Type} {xs : List α} {j : Nat} {v : α} (h : xs[j]? = some v) : atI xs (j : Int) = some v := by
  have hj : j < xs.length := (List.getElem?_eq_some_iff.mp h).1
  have e : ixN xs.length (j : Int) = some j := by
    unfold ixN
    rw [if_pos (by omega), if_pos (by omega)]; simp
  unfold atI; rw [e]; exact h
def PlainIx (b : Expr) : Prop := ∀ o i, subscripted b false o i = operate [o, i] (getItem o i)
def IxR (X : Cx) (r : R2) : Prop :=
  ∀ (value slice : Expr) (pins : List (Addr × Obj)) (s : Shared) (σ : St) (H : Hp) (x y : V) (v u : Value) (Q : VK), Inv X pins σ H s → RelV x v → RelV y u → r x y H Q →
    subscripted slice false v u = operate [v, u] (getItem v u) → wpAny (model X.prog X.w) X.A (subscriptTail value slice v u) (EP X pins σ Q) X.xe s
def MtR (X : Cx) (id : String) (r : V → List V → Hp → VK → Prop) : Prop :=
  ∀ (pins : List (Addr × Obj)) (s : Shared) (σ : St) (H : Hp) (x : V) (xs : List V) (v : Value) (us : List Value) (Q : VK), Inv X pins σ H s → RelV x v → Vals xs us → r x xs H Q →
    wpAny (model X.prog X.w) X.A (call (.builtin id) (v :: us)) (EP X pins σ Q) X.xe s
section
variable {X : Cx} {a b : Expr} {ta tb : TE} {pos : Pos}
theorem pe_ix {r : R2} (hr : IxR X r) (ha : PE X a ta) (hb : PE X b tb) (hs : PlainIx b) : PE X (.Subscript a b pos) (tOp r ta tb) := by
  intro pins s σ H Q I h
  exact Subscript_ (binT ha hb I h fun v u s2 x y H2 I2 rx ry q => hr a b pins s2 σ H2 x y v u Q I2 rx ry q (hs _ _))
inductive rIxL (K : PySem.W.Frag) (x : V) (y : V) (H : Hp) (Q : VK) : Prop
  | mk (p xs i v) (h1 : x = .ref p) (h2 : y = .int i) (h3 : SqL K H p xs) (h4 : atI xs i = some v) (h5 : Q v H) : rIxL K x y H Q
inductive rIxT (K : PySem.W.Frag) (x : V) (y : V) (H : Hp) (Q : VK) : Prop
  | mk (p xs i v) (h1 : x = .ref p) (h2 : y = .int i) (h3 : SqT K H p xs) (h4 : atI xs i = some v) (h5 : Q v H) : rIxT K x y H Q
inductive rIxS (x : V) (y : V) (H : Hp) (Q : VK) : Prop
  | mk (z i c) (h1 : x = .str z) (h2 : y = .int i) (h3 : z.length ≤ sizeLine) (h4 : atI z.cps.toList i = some c) (h5 : Q (.str ⟨#[c]⟩) H) : rIxS x y H Q
theorem ix_list : IxR X (rIxL X.K) := by
  intro value slice pins s σ H x y v u Q I rx ry h hs
  obtain ⟨p, xs, i, z, rfl, rfl, hq, he, q⟩ := h
  cases rx
  obtain ⟨t, rfl⟩ := ry
  obtain ⟨its, r, pl, hz⟩ := I.list hq
  obtain ⟨j, h1, h2, h3, h4, h5⟩ := atI_get he
  obtain ⟨w, ew, rw'⟩ := r.get h2
  have hl := r.length
  have hn := line63
  have fin : EP X pins σ Q w s := ⟨z, H, I, rw', q⟩
  by_cases h0 : 0 ≤ i
  · have hj : i.toNat = j := by
      rw [seqIndex_of h0 h5] at h1
      exact Option.some.inj h1
    exact item_listR pl.isList h0 (by omega) (by rw [hj]; simpa using ew) fin hs
  · have hj : (i + (its.toArray.size : Int)).toNat = j := by
      rw [seqIndex_neg (by omega) h4] at h1
      rw [List.size_toArray, ← hl]
      exact Option.some.inj h1
    exact subscriptTail_builtinR (x := w) pl.isList.typeIs slot_list_getitem.lookup
      (wpAny_getItem_list_neg (Q := fun r s' => r = w ∧ EP X pins σ Q r s') pl.isList (by omega) (by rw [List.size_toArray] <;> omega) (by omega) (by rw [hj]; simpa using ew) ⟨rfl, fin⟩) hs
theorem ix_tup : IxR X (rIxT X.K) := by
  intro value slice pins s σ H x y v u Q I rx ry h hs
  obtain ⟨p, xs, i, z, rfl, rfl, hq, he, q⟩ := h
  cases rx
  obtain ⟨t, rfl⟩ := ry
  obtain ⟨its, r, pl, hz⟩ := I.tuple hq
  obtain ⟨j, h1, h2, h3, h4, h5⟩ := atI_get he
  obtain ⟨w, ew, rw'⟩ := r.get h2
  have hl := r.length
  have hn := line63
  have fin : EP X pins σ Q w s := ⟨z, H, I, rw', q⟩
  exact subscriptTail_builtinR (x := w) pl.typeIs slot_tuple_getitem.lookup
    (getItem_tuple (j := j) (Q := fun r s' => r = w ∧ EP X pins σ Q r s') pl (by omega) (by omega) (by rw [List.size_toArray, ← hl]; exact h1) (by simpa using ew) ⟨rfl, fin⟩) hs
theorem ix_str : IxR X rIxS := by
  intro value slice pins s σ H x y v u Q I rx ry h hs
  obtain ⟨z, i, c, rfl, rfl, hz, he, q⟩ := h
  obtain ⟨t, rfl⟩ := rx
  obtain ⟨t', rfl⟩ := ry
  obtain ⟨j, h1, h2, h3, h4, h5⟩ := atI_get he
  have hl : z.cps.toList.length = z.length := by simp [Str.length]
  rw [hl] at h1 h4 h5
  have hn := line63
  exact tail_any (typeIs_str s z t) slot_str_getitem.lookup (getItem_str (c := c) (by
    have e1 : decide (i < -(2 ^ 63 : Int)) = false := decide_eq_false (by omega)
    have e2 : decide (i ≥ 2 ^ 63) = false := decide_eq_false (by omega)
    rw [e1, e2, Bool.or_false]) (by rw [h1]; simpa using h2) ⟨.str ⟨#[c]⟩, H, I.tok _, ⟨_, rfl⟩, q⟩) hs
theorem mapSeq_set (its : List Value) (n j : Nat) (u : Value) : Obj.mapSeq (·.setIfInBounds j u) { cls := .type "list", data := .seq its.toArray n } = { cls := .type "list", data := .seq (its.set j u).toArray n } := by
  simp [Obj.mapSeq]
theorem Inv.lst {pins : List (Addr × Obj)} {σ : St} {H : Hp} {s : Shared} {p : Addr} {xs : List V} (I : Inv X pins σ H s) (h : H p = some (.lst xs)) :
    ∃ (its : List Value) (n : Nat), Vals xs its ∧ s.heap.get? p = some { cls := .type "list", data := .seq its.toArray n } ∧ xs.length ≤ sizeLine := by
  obtain ⟨z, its, n, r, e⟩ := I.hok p _ h
  exact ⟨its, n, r, e, z⟩
theorem Inv.lstUpd {pins : List (Addr × Obj)} {σ : St} {H : Hp} {s : Shared} {p : Addr} {xs ys : List V} {its its' : List Value} {n n' : Nat} {f : Obj → Obj} (I : Inv X pins σ H s) (h : H p = some (.lst xs))
    (ho : s.heap.get? p = some { cls := .type "list", data := .seq its.toArray n }) (hf : f { cls := .type "list", data := .seq its.toArray n } = { cls := .type "list", data := .seq its'.toArray n' }) (r : Vals ys its') (hz : ys.length ≤ sizeLine) (t : Nat) :
    Inv X pins σ (upd H p (.lst ys)) { s with heap := s.heap.update p f, toks := t } := by
  have e : (s.heap.update p f).get? p = some { cls := .type "list", data := .seq its'.toArray n' } := by
    rw [Heap.get?_update_self f ho (by rw [hf] <;> rfl), hf]
  refine I.write (x := p) (e := p) (by rw [h]; trivial) (.inl rfl) (fun b u hb q => (Heap.get?_update_other _ _ (Ne.symm hb)).trans q) ⟨_, e⟩ ?_
  exact ⟨hz, its', n', r, e⟩
def rSetL : V → V → V → Hp → (Hp → Prop) → Prop := fun o i v H Q => ∃ p xs k j, o = .ref p ∧ i = .int k ∧ H p = some (.lst xs) ∧ ixN xs.length k = some j ∧ Q (upd H p (.lst (xs.set j v)))
theorem set_list : PSet X rSetL := by
  intro pins s σ H o i v ov iv u Q I ro ri rv h
  obtain ⟨p, xs, k, j, rfl, rfl, hp, hj, q⟩ := h
  cases ro
  obtain ⟨t, rfl⟩ := ri
  obtain ⟨its, n, r, ho, hz⟩ := I.lst hp
  obtain ⟨h1, h2, h3, h4⟩ := ixN_seq hj
  have hl := r.length
  have hn := line63
  have I' : Inv X pins σ (upd H p (.lst (xs.set j v))) { s with heap := s.heap.update p (Obj.mapSeq (·.setIfInBounds j u)) } :=
    I.lstUpd hp ho (mapSeq_set its n j u) (r.set rv j) (by rw [List.length_set]; exact hz) s.toks
  by_cases h0 : 0 ≤ k
  · have hk : k.toNat = j := by
      rw [seqIndex_of h0 h4] at h1
      exact Option.some.inj h1
    exact PySem.W.ki_setAt ho h0 (by omega) (by rw [List.size_toArray, ← hl]; exact h4) (by rw [hk]; exact ⟨_, I', q⟩)
  · have hk : (k + (its.toArray.size : Int)).toNat = j := by
      rw [seqIndex_neg (by omega) h3] at h1
      rw [List.size_toArray, ← hl]
      exact Option.some.inj h1
    exact PySem.W.ki_setBack ho (by omega) (by rw [List.size_toArray, ← hl]; exact h3) (by omega) (by rw [hk]; exact ⟨_, I', q⟩)
theorem slice_bounds (lo hi : Option Int) (n : Nat) : (sliceBounds lo hi none n).1 = ((HT.sIx n 0 lo : Nat) : Int) ∧ (sliceBounds lo hi none n).2.1 = ((HT.sIx n n hi : Nat) : Int) ∧ (sliceBounds lo hi none n).2.2 = 1 := by
  refine ⟨?_, ?_, rfl⟩
  · cases lo with
    | none => simp [sliceBounds, HT.sIx]
    | some i =>
      simp only [sliceBounds, HT.sIx, Option.getD_none, show (1 : Int) > 0 by decide, if_true]
      by_cases h : i < 0
      · simp only [h, if_true] <;> omega
      · simp only [h, if_false] <;> omega
  · cases hi with
    | none => simp [sliceBounds, HT.sIx]
    | some i =>
      simp only [sliceBounds, HT.sIx, Option.getD_none, show (1 : Int) > 0 by decide, if_true]
      by_cases h : i < 0
      · simp only [h, if_true] <;> omega
      · simp only [h, if_false] <;> omega
theorem slicePick_cut (its : List Value) (lo hi : Option Int) : slicePick its.toArray lo hi none = ((its.drop (HT.sIx its.length 0 lo)).take (HT.sIx its.length its.length hi - HT.sIx its.length 0 lo)).toArray := by
  obtain ⟨h1, h2, h3⟩ := slice_bounds lo hi its.toArray.size
  unfold slicePick
  rw [h1, h2, h3]
  simp only [sliceRange_one, pick_run, List.size_toArray] <;> rfl
inductive rSlL (K : PySem.W.Frag) (x : V) (lo : Option Int) (hi : Option Int) (H : Hp) (Q : VK) : Prop
  | mk (a xs) (h1 : x = .ref a) (h2 : SqL K H a xs) (h3 : ∀ p, H p = none → Q (.ref p) (upd H p (.lst (cutV xs lo hi)))) : rSlL K x lo hi H Q
theorem sl_list : SlR X (rSlL X.K) := by
  intro pins s σ H x v vl vu lo hi sl Q I rx hs pl pu h
  obtain ⟨a, xs, rfl, hx, q⟩ := h
  cases rx
  obtain ⟨its, r, ht, hz⟩ := I.list hx
  have hlen := r.length
  refine ⟨"list", _, slot_list_getitem.lookup, ht.isList.typeIs, ?_⟩
  refine wpAny_getItem_list_slice ht.isList hs pl pu .none (by simp) ?_ (by rw [List.size_toArray] <;> omega)
  rw [slicePick_cut, ← hlen]
  refine ⟨.ref s.heap.objs.size, _, I.laid (t' := s.toks) (o := .lst (cutV xs lo hi)) (fun b ob q => Heap.get?_push_of_some _ q) (Nat.le_refl _) ?_, rfl, q _ (I.hok.fresh (Nat.le_refl _))⟩
  exact ⟨Nat.le_trans (cutV_length xs lo hi) hz, _, 0, (r.drop (HT.sIx xs.length 0 lo)).take (HT.sIx xs.length xs.length hi - HT.sIx xs.length 0 lo), Heap.get?_push_size _ rfl⟩
def flatV : V → Bool
  | .non => true
  | .bl _ => true
  | .int _ => true
  | .str _ => true
  | _ => false
def eqV : V → V → Bool
  | .non, .non => true
  | .bl a, .bl b => a == b
  | .bl a, .int b => (if a then 1 else 0) == b
  | .int a, .bl b => a == (if b then 1 else 0)
  | .int a, .int b => a == b
  | .str a, .str b => a == b
  | _, _ => false
theorem eqAt_V {A : Around} {s : Shared} {y x : V} {u v : Value} (ry : RelV y u) (rx : RelV x v) (fy : flatV y = true) (fx : flatV x = true) : SeqAt.EqAt A s u v (eqV y x) := by
  cases y with
  | non =>
    cases ry
    cases x with
    | non => cases rx; exact SeqAt.EqAt.same _
    | bl b => cases rx; exact SeqAt.EqAt.none_bool b
    | int b => obtain ⟨t, rfl⟩ := rx; exact SeqAt.EqAt.none_int b t
    | str b => obtain ⟨t, rfl⟩ := rx; exact SeqAt.EqAt.none_str b t
    | _ => exact absurd (show false = true from fx) Bool.false_ne_true
  | bl a =>
    cases ry
    cases x with
    | non => cases rx; exact SeqAt.EqAt.bool_none a
    | bl b => cases rx; exact SeqAt.EqAt.bool_bool a b
    | int b => obtain ⟨t, rfl⟩ := rx; exact SeqAt.EqAt.bool_int a b t
    | str b => obtain ⟨t, rfl⟩ := rx; exact SeqAt.EqAt.bool_str a b t
    | _ => exact absurd (show false = true from fx) Bool.false_ne_true
  | int a =>
    obtain ⟨t', rfl⟩ := ry
    cases x with
    | non => cases rx; exact SeqAt.EqAt.int_none a t'
    | bl b => cases rx; exact SeqAt.EqAt.int_bool a t' b
    | int b => obtain ⟨t, rfl⟩ := rx; exact SeqAt.EqAt.int_int a t' b t
    | str b => obtain ⟨t, rfl⟩ := rx; exact SeqAt.EqAt.int_str a t' b t
    | _ => exact absurd (show false = true from fx) Bool.false_ne_true
  | str a =>
    obtain ⟨t', rfl⟩ := ry
    cases x with
    | non => cases rx; exact SeqAt.EqAt.str_none a t'
    | bl b => cases rx; exact SeqAt.EqAt.str_bool a t' b
    | int b => obtain ⟨t, rfl⟩ := rx; exact SeqAt.EqAt.str_int a t' b t
    | str b => obtain ⟨t, rfl⟩ := rx; exact SeqAt.EqAt.str_str a t' b t
    | _ => exact absurd (show false = true from fx) Bool.false_ne_true
  | _ => exact absurd (show false = true from fy) Bool.false_ne_true
def eqU (x : V) (u : Value) : Bool := match u with
  | .none => eqV .non x
  | .bool b => eqV (.bl b) x
  | .int i _ => eqV (.int i) x
  | .str z _ => eqV (.str z) x
  | _ => false
theorem eqU_of {x y : V} {u : Value} (r : RelV y u) (f : flatV y = true) : eqU x u = eqV y x := by
  cases y with
  | non => cases r; rfl
  | bl b => cases r; rfl
  | int i => obtain ⟨t, rfl⟩ := r; rfl
  | str z => obtain ⟨t, rfl⟩ := r; rfl
  | _ => exact absurd (show false = true from f) Bool.false_ne_true
theorem any_eqU {x : V} : ∀ {xs : List V} {us : List Value}, Vals xs us → xs.all flatV = true → us.any (eqU x) = xs.any fun y => eqV y x
  | _, _, .nil, _ => rfl
  | y :: xs, u :: us, .cons r t, f => by
    rw [List.all_cons, Bool.and_eq_true] at f
    rw [List.any_cons, List.any_cons, eqU_of r f.1, any_eqU t f.2]
theorem mem_eqAt {A : Around} {s : Shared} {x : V} {v : Value} (rx : RelV x v) (fx : flatV x = true) : ∀ {xs : List V} {us : List Value}, Vals xs us → xs.all flatV = true → ∀ u ∈ us, SeqAt.EqAt A s u v (eqU x u)
  | _, _, .nil, _ => fun u hu => by cases hu
  | y :: xs, u :: us, .cons r t, f => fun u' hu => by
    rw [List.all_cons, Bool.and_eq_true] at f
    rcases List.mem_cons.mp hu with rfl | hu
    · rw [eqU_of r f.1]; exact eqAt_V r rx f.1 fx
    · exact mem_eqAt rx fx t f.2 u' hu
def inV (x : V) (xs : List V) : Bool := xs.any fun y => eqV y x
inductive rIn (K : PySem.W.Frag) (neg : Bool) (x : V) (y : V) (H : Hp) (Q : VK) : Prop
  | mk (p xs) (h1 : y = .ref p) (h2 : (SqL K H p xs ∨ SqT K H p xs)) (h3 : flatV x = true) (h4 : xs.all flatV = true) (h5 : Q (.bl (if neg then !inV x xs else inV x xs)) H) : rIn K neg x y H Q
theorem op_in_seq : OpR X (compareOp .In) (rIn X.K false) := by
  intro pins s σ H x y v u Q I rx ry h
  obtain ⟨p, xs, rfl, hq, fx, fs, q⟩ := h
  cases ry
  rcases hq with hq | hq
  · obtain ⟨its, r, pl, hz⟩ := I.list hq
    refine SeqAt.in_listAt (eqU x) pl.isList (fun w hw => mem_eqAt rx fx r fs w (by simpa using hw)) ⟨.bl _, H, I, rfl, ?_⟩
    rw [show its.toArray.any (eqU x) = its.any (eqU x) by simp, any_eqU r fs]
    exact q
  · obtain ⟨its, r, pl, hz⟩ := I.tuple hq
    refine SeqAt.in_tupleAt (eqU x) pl (fun w hw => mem_eqAt rx fx r fs w (by simpa using hw)) ⟨.bl _, H, I, rfl, ?_⟩
    rw [show its.toArray.any (eqU x) = its.any (eqU x) by simp, any_eqU r fs]
    exact q
theorem op_notIn_seq : OpR X (compareOp .NotIn) (rIn X.K true) := by
  intro pins s σ H x y v u Q I rx ry h
  obtain ⟨p, xs, rfl, hq, fx, fs, q⟩ := h
  cases ry
  rcases hq with hq | hq
  · obtain ⟨its, r, pl, hz⟩ := I.list hq
    refine SeqAt.notIn_listAt (eqU x) pl.isList (fun w hw => mem_eqAt rx fx r fs w (by simpa using hw)) ⟨.bl _, H, I, rfl, ?_⟩
    rw [show its.toArray.any (eqU x) = its.any (eqU x) by simp, any_eqU r fs]
    exact q
  · obtain ⟨its, r, pl, hz⟩ := I.tuple hq
    refine SeqAt.notIn_tupleAt (eqU x) pl (fun w hw => mem_eqAt rx fx r fs w (by simpa using hw)) ⟨.bl _, H, I, rfl, ?_⟩
    rw [show its.toArray.any (eqU x) = its.any (eqU x) by simp, any_eqU r fs]
    exact q
theorem call_len_seq : CallR X (.builtin "len") (fun xs H Q => ∃ p ys, xs = [.ref p] ∧ (SqL X.K H p ys ∨ SqT X.K H p ys) ∧ Q (.int ys.length) H) := by
  intro pins s σ H xs us Q I r h
  obtain ⟨p, ys, rfl, hq, q⟩ := h
  obtain ⟨u, rfl, rx⟩ := vals1 r
  cases rx
  have hn := line63
  rcases hq with hq | hq
  · obtain ⟨its, r', pl, hz⟩ := I.list hq
    have hlen := r'.length
    exact Calls.call_len_list pl.isList (by simp only [List.size_toArray] <;> omega) ⟨.int ys.length, H, I.tok _, ⟨s.toks + 1, by rw [List.size_toArray, hlen]⟩, q⟩
  · obtain ⟨its, r', pl, hz⟩ := I.tuple hq
    have hlen := r'.length
    exact len_tuple pl (by simp only [List.size_toArray] <;> omega) ⟨.int ys.length, H, I.tok _, ⟨s.toks + 1, by rw [List.size_toArray, hlen]⟩, q⟩
theorem call_len_str : CallR X (.builtin "len") (fun xs H Q => ∃ z, xs = [.str z] ∧ z.length ≤ sizeLine ∧ Q (.int z.length) H) := by
  intro pins s σ H xs us Q I r h
  obtain ⟨z, rfl, hz, q⟩ := h
  obtain ⟨u, rfl, t, rfl⟩ := vals1 r
  have hn := line63
  exact len_str (by omega) ⟨.int z.length, H, I.tok _, ⟨_, rfl⟩, q⟩
theorem call_list_of : CallR X (.type "list") (fun xs H Q => ∃ p ys, xs = [.ref p] ∧ (SqL X.K H p ys ∨ SqT X.K H p ys) ∧ ∀ l, H l = none → Q (.ref l) (upd H l (.lst ys))) := by
  intro pins s σ H xs us Q I r h
  obtain ⟨p, ys, rfl, hq, q⟩ := h
  obtain ⟨u, rfl, rx⟩ := vals1 r
  cases rx
  have fin : ∀ (its : List Value), Vals ys its → ys.length ≤ sizeLine → ∀ (h' : Heap) (c' : Nat), (∀ b o', s.heap.get? b = some o' → h'.get? b = some o') →
      h'.get? s.heap.objs.size = some { cls := .type "list", dict := none, data := .seq its.toArray c', slots := #[] } → EP X pins σ Q (.ref s.heap.objs.size) { s with heap := h' } := fun its r' hz h' c' kp e =>
    ⟨.ref s.heap.objs.size, _, I.laid (t' := s.toks) kp (Nat.le_refl _) (show ObjOk X.prog X.w _ h' _ (.lst ys) from ⟨hz, its, c', r', e⟩), rfl, q _ (I.hok.fresh (Nat.le_refl _))⟩
  rcases hq with hq | hq
  · obtain ⟨its, r', pl, hz⟩ := I.list hq
    have hlen := r'.length
    obtain ⟨o, ho, hc, n, hd⟩ := pl.isList
    exact call_list_seq p (.inl rfl) ho hc hd (fun h' c' kp e => fin its r' hz h' c' kp e) (by simp only [List.size_toArray] <;> omega)
  · obtain ⟨its, r', pl, hz⟩ := I.tuple hq
    have hlen := r'.length
    obtain ⟨o, ho, hc, n, hd⟩ := pl
    exact call_list_seq p (.inr rfl) ho hc hd (fun h' c' kp e => fin its r' hz h' c' kp e) (by simp only [List.size_toArray] <;> omega)
def tyV (K : PySem.W.Frag) (T : String) (x : V) (H : Hp) : Prop := match x with
  | .str _ => T = "str"
  | .int _ => T = "int"
  | .ref p => (T = "list" ∧ ∃ xs, SqL K H p xs) ∨ (T = "tuple" ∧ ∃ o, K.lookup p = some o ∧ o.cls = .type "tuple" ∧ o.dict = none) ∨
      (T = "dict" ∧ ((∃ kvs, H p = some (.dK kvs)) ∨ ∃ kvs, H p = some (.dT kvs))) ∨ (T = "set" ∧ ∃ S n, H p = some (.set S n))
  | _ => False
theorem tyV_is {pins : List (Addr × Obj)} {σ : St} {H : Hp} {s : Shared} {T : String} {x : V} {v : Value} (I : Inv X pins σ H s) (r : RelV x v) (ty : tyV X.K T x H) :
    s.TypeIs v T ∧ ∀ a, v = .ref a → ∃ ob, s.heap.get? a = some ob ∧ ob.dict = none := by
  cases x with
  | str z =>
    obtain ⟨t, rfl⟩ := r
    cases (show T = "str" from ty)
    exact ⟨typeIs_str s z t, fun _ e => nomatch e⟩
  | int i =>
    obtain ⟨t, rfl⟩ := r
    cases (show T = "int" from ty)
    exact ⟨typeIs_int s i t, fun _ e => nomatch e⟩
  | ref p =>
    cases r
    rcases ty with ⟨rfl, xs, hq⟩ | ⟨rfl, o, hk, hc, hd⟩ | ⟨rfl, hk⟩ | ⟨rfl, S, n, hk⟩
    · obtain ⟨its, _, pl, _⟩ := I.list hq
      refine ⟨pl.isList.typeIs, fun a e => ?_⟩
      cases e
      obtain ⟨o, n, e, c, hd, _⟩ := pl
      exact ⟨o, e, hd⟩
    · refine ⟨⟨o, I.kIn p o hk, hc⟩, fun a e => ?_⟩
      cases e
      exact ⟨o, I.kIn _ o hk, hd⟩
    · have z : ∃ o, s.heap.get? p = some o ∧ o.ExactDict := by
        rcases hk with ⟨kvs, hk⟩ | ⟨kvs, hk⟩
        · obtain ⟨_, _, _, _, o, _, _, e, ex, _⟩ := I.hok p _ hk
          exact ⟨o, e, ex⟩
        · obtain ⟨_, _, _, _, o, _, _, e, ex, _⟩ := I.hok p _ hk
          exact ⟨o, e, ex⟩
      obtain ⟨o, e, ex⟩ := z
      refine ⟨⟨o, e, ex.1⟩, fun a e2 => ?_⟩
      cases e2
      exact ⟨o, e, ex.2.1⟩
    · obtain ⟨o, _, _, _, e, ex, _⟩ := I.hok p _ hk
      refine ⟨⟨o, e, ex.1⟩, fun a e2 => ?_⟩
      cases e2
      exact ⟨o, e, ex.2.1⟩
  | _ => exact False.elim ty
def tBM0 (K : PySem.W.Frag) (T : String) (r : V → List V → Hp → VK → Prop) (to : TE) : TE := fun σ H Q => to σ H fun x H1 => tyV K T x H1 ∧ r x [] H1 Q
def tBM (K : PySem.W.Frag) (T : String) (r : V → List V → Hp → VK → Prop) (to : TE) (t : TA) : TE := fun σ H Q => to σ H fun x H1 => tyV K T x H1 ∧ t σ H1 fun xs H2 => r x xs H2 Q
variable {o e : Expr} {es : List Expr} {to : TE} {t : TA} {name : Str} {apos cpos : Pos} {T id : String} {r : V → List V → Hp → VK → Prop}
theorem pe_bm0 (pa : PlainAttrs T) (slot : Slot T name id) (hty : typeOf (.builtin id) = pure (.type "method_descriptor")) (hm : MtR X id r) (ho : PE X o to)
    (hbase : attributeBase o name X.env (eval o X.env) = eval o X.env := by rfl) (hline : (apos.endLine == cpos.line) = true := by rfl) : PE X (.Call (.Attribute o name apos) [] [] cpos) (tBM0 X.K T r to) := by
  intro pins s σ H Q I h
  refine wpAny_Call_method0_late hbase hline (thn (ho pins s σ H _ I h) fun v s1 ⟨x, H1, I1, r1, ty, q1⟩ => ?_)
  obtain ⟨h1, h2⟩ := tyV_is I1 r1 ty
  exact ⟨T, id, pa, slot, hty, h1, h2, Calls.callWith_builtin rfl (PySem.evalArgs_none (hm pins s1 σ H1 x [] v [] Q I1 r1 .nil q1))⟩
theorem pe_bm (pa : PlainAttrs T) (slot : Slot T name id) (hty : typeOf (.builtin id) = pure (.type "method_descriptor")) (hm : MtR X id r) (ho : PE X o to) (ha : PA X (e :: es) t)
    (hbase : attributeBase o name X.env (eval o X.env) = eval o X.env := by rfl)
    (hfew : ((backTo cpos (starEach (e :: es) X.env)).all (fun x => !x.1) && (backToKw cpos (keywordEach [] X.env)).all (fun x => x.1.isSome)
      && decide ((e :: es).length + ([] : List Keyword).length + (if ([] : List Keyword).isEmpty then 0 else 1) < 30)) = true := by rfl)
    (hline : (apos.endLine == cpos.line) = true := by rfl) (hs : starEach (e :: es) X.env = (false, eval e X.env) :: starEach es X.env := by rfl) (hplain : (backTo cpos (starEach es X.env)).any (·.1) = false := by rfl) :
    PE X (.Call (.Attribute o name apos) (e :: es) [] cpos) (tBM X.K T r to t) := by
  intro pins s σ H Q I h
  refine wpAny_Call_method_late hbase hfew hline rfl (thn (ho pins s σ H _ I h) fun v s1 ⟨x, H1, I1, r1, ty, q1⟩ => ?_)
  obtain ⟨h1, h2⟩ := tyV_is I1 r1 ty
  refine ⟨T, id, pa, slot, hty, h1, h2, ?_⟩
  have hA := ha cpos pins s1 σ H1 _ I1 q1
  rw [hs] at hA ⊢
  refine Calls.callWith_builtin (by show (false || (backTo cpos (starEach es X.env)).any (·.1)) = false; rw [hplain] <;> rfl) (Calls.evalArgs_plain ?_)
  exact thn hA fun us s2 ⟨vs, H2, I2, r2, q2⟩ => hm pins s2 σ H2 x vs v us Q I2 r1 r2 q2
end
end L2
namespace L2
open PySem PySem.Spec PyProof.Rows
def MtM (X : Cx) (id : String) (r : V → List V → Hp → VK → Prop) : Prop :=
  ∀ (pins : List (Addr × Obj)) (s : Shared) (σ : St) (H : Hp) (x : V) (xs : List V) (v : Value) (us : List Value) (Q : VK), Inv X pins σ H s → RelV x v → Vals xs us → r x xs H Q →
    wpAny (model X.prog X.w) X.A (call (.builtin id) (v :: us)) (EP X pins σ Q) X.xe s
theorem Vals.one : ∀ {x : V} {us : List Value}, Vals [x] us → ∃ u, us = [u] ∧ RelV x u
  | _, _, .cons r .nil => ⟨_, rfl, r⟩
theorem Vals.zero : ∀ {us : List Value}, Vals [] us → us = []
  | _, .nil => rfl
theorem Vals.eraseIdx : ∀ {xs : List V} {us : List Value} (i : Nat), Vals xs us → Vals (xs.eraseIdx i) (us.eraseIdx i)
  | _, _, _, .nil => .nil
  | _, _, 0, .cons _ t => t
  | _, _, i + 1, .cons r t => .cons r (Vals.eraseIdx i t)
theorem len_erase {α : Type} : ∀ (l : List α) (i : Nat), (l.eraseIdx i).length ≤ l.length
  | [], _ => Nat.le_refl _
  | _ :: _, 0 => Nat.le_succ _
  | _ :: r, i + 1 => Nat.succ_le_succ (len_erase r i)
section
variable {X : Cx} {pins : List (Addr × Obj)} {σ : St} {H : Hp} {s : Shared} {l b : Addr} {xs ys zs : List V}
theorem Inv.lset {its its' : List Value} {n : Nat} {f : Array Value → Array Value} {t' : Nat} (I : Inv X pins σ H s) (hH : H l = some (.lst xs))
    (e : s.heap.get? l = some { cls := .type "list", data := .seq its.toArray n }) (hf : f its.toArray = its'.toArray) (hv : Vals ys its') (hz : ys.length ≤ sizeLine) :
    Inv X pins σ (upd H l (.lst ys)) { s with heap := s.heap.update l (Obj.mapSeq f), toks := t' } := by
  have q := PySem.IsL.update e f
  rw [hf] at q
  refine I.write (x := l) (e := l) (by rw [hH]; exact trivial) (.inl rfl) (fun b' u hb hu => (Heap.get?_update_other s.heap (Obj.mapSeq f) (Ne.symm hb)).trans hu) ⟨_, q⟩ ?_
  exact ⟨hz, its', _, hv, q⟩
theorem Inv.lnew {its : List Value} {t' : Nat} (I : Inv X pins σ H s) (hv : Vals ys its) (hz : ys.length ≤ sizeLine) :
    Inv X pins σ (upd H s.heap.objs.size (.lst ys)) { s with heap := s.heap.push { cls := .type "list", data := .seq its.toArray }, toks := t' } :=
  I.laid (fun _ _ q => Heap.get?_push_of_some _ q) (Nat.le_refl _) ⟨hz, its, 0, hv, Heap.get?_push_size _ rfl⟩
theorem Inv.fresh (I : Inv X pins σ H s) : H s.heap.objs.size = none := I.hok.fresh (Nat.le_refl _)
theorem Inv.lstM (I : Inv X pins σ H s) (hH : H l = some (.lst xs)) : xs.length ≤ sizeLine ∧ ∃ (its : List Value) (n : Nat), Vals xs its ∧ xs.length = its.length ∧ s.heap.get? l = some { cls := .type "list", data := .seq its.toArray n } := by
  obtain ⟨z, its, n, r, e⟩ := I.hok l _ hH
  exact ⟨z, its, n, r, r.length, e⟩
theorem notLongL {n : Nat} (h : n ≤ sizeLine) : Builtin.List.listTooLong n = false := by
  unfold Builtin.List.listTooLong
  exact decide_eq_false (by omega)
end
section
variable {X : Cx}
inductive rAppend (x : V) (vs : List V) (H : Hp) (Q : VK) : Prop
  | mk (l xs y) (h1 : x = .ref l) (h2 : vs = [y]) (h3 : H l = some (.lst xs)) (h4 : xs.length < sizeLine) (h5 : Q .non (upd H l (.lst (xs ++ [y])))) : rAppend x vs H Q
theorem mt_append : MtM X "list.append" rAppend := by
  intro pins s σ H x vs v us Q I rx rv h
  obtain ⟨l, xs, y, rfl, rfl, hH, hz, q⟩ := h
  cases rx
  obtain ⟨u, rfl, ru⟩ := rv.one
  obtain ⟨z, its, n, r, hl, e⟩ := I.lstM hH
  refine call_meets F.slot_list_append ⟨_, e, rfl⟩ F.entry_list_append (F.args_list_append_2 _ _) (PySem.list_append l its.toArray n u (by rw [List.size_toArray]; omega)) ⟨e, ?_⟩
  refine ⟨.non, _, I.lset (its' := its ++ [u]) hH e (by simp) (r.append (.cons ru .nil)) ?_, rfl, q⟩
  rw [List.length_append, List.length_singleton]
  omega
def rExtend : V → List V → Hp → VK → Prop := fun x vs H Q => ∃ l b xs zs, x = .ref l ∧ vs = [.ref b] ∧ H l = some (.lst xs) ∧ H b = some (.lst zs) ∧ xs.length + zs.length ≤ sizeLine ∧ Q .non (upd H l (.lst (xs ++ zs)))
theorem mt_extend : MtM X "list.extend" rExtend := by
  intro pins s σ H x vs v us Q I rx rv h
  obtain ⟨l, b, xs, zs, rfl, rfl, hH, hB, hz, q⟩ := h
  cases rx
  obtain ⟨u, rfl, ru⟩ := rv.one
  cases ru
  obtain ⟨z, its, n, r, hl, e⟩ := I.lstM hH
  obtain ⟨z2, its2, n2, r2, hl2, e2⟩ := I.lstM hB
  have hsz : its.toArray.size + its2.toArray.size ≤ sizeLine := by rw [List.size_toArray, List.size_toArray]; omega
  have hlong : ¬ (!its.toArray.isEmpty && Builtin.List.listTooLong (its.toArray.size + its2.toArray.size)) = true := by
    rw [notLongL hsz, Bool.and_false]
    exact Bool.false_ne_true
  refine call_meets F.slot_list_extend ⟨_, e, rfl⟩ F.entry_list_extend (F.args_list_extend_2 _ _)
    (AutoSeq1.list_extend_list_list_0 l its.toArray n b its2.toArray n2 hlong (by rw [List.size_toArray]; omega) (by omega)) ⟨e, e2, ?_⟩
  refine ⟨.non, _, I.lset (its' := its ++ its2) hH e (by simp) (r.append r2) ?_, rfl, q⟩
  rw [List.length_append]
  omega
def rPopAt : V → List V → Hp → VK → Prop := fun x vs H Q => ∃ l xs i k y, x = .ref l ∧ vs = [.int i] ∧ H l = some (.lst xs) ∧ -(2 ^ 63) ≤ i ∧ i < 2 ^ 63 ∧ seqIndex? i xs.length = some k ∧ xs[k]? = some y ∧ Q y (upd H l (.lst (xs.eraseIdx k)))
theorem mt_popAt : MtM X "list.pop" rPopAt := by
  intro pins s σ H x vs v us Q I rx rv h
  obtain ⟨l, xs, i, k, y, rfl, rfl, hH, h1, h2, hk, hy, q⟩ := h
  cases rx
  obtain ⟨u, rfl, ru⟩ := rv.one
  obtain ⟨t, rfl⟩ := ru
  obtain ⟨z, its, n, r, hl, e⟩ := I.lstM hH
  obtain ⟨w, hw, rw'⟩ := r.get hy
  refine call_meets F.slot_list_pop ⟨_, e, rfl⟩ F.entry_list_pop (F.args_list_pop_2 _ _)
    (MeetsSeq.list_pop_at l its.toArray n i t k w (fitsIndex_both h1 h2) (by rw [List.size_toArray, ← hl]; exact hk) (by rw [← Array.getElem?_toList]; exact hw) (by rw [List.size_toArray]; omega)) ⟨e, ?_⟩
  refine ⟨y, _, I.lset (its' := its.eraseIdx k) hH e ?_ (r.eraseIdx k) ?_, rw', q⟩
  · show its.toArray.eraseIdxIfInBounds k = (its.eraseIdx k).toArray
    rw [List.eraseIdxIfInBounds_toArray]
  · have := len_erase xs k
    omega
inductive rClear (x : V) (vs : List V) (H : Hp) (Q : VK) : Prop
  | mk (l xs) (h1 : x = .ref l) (h2 : vs = []) (h3 : H l = some (.lst xs)) (h4 : Q .non (upd H l (.lst []))) : rClear x vs H Q
theorem mt_clear : MtM X "list.clear" rClear := by
  intro pins s σ H x vs v us Q I rx rv h
  obtain ⟨l, xs, rfl, rfl, hH, q⟩ := h
  cases rx
  have hus := rv.zero
  subst hus
  obtain ⟨z, its, n, r, hl, e⟩ := I.lstM hH
  refine call_meets F.slot_list_clear ⟨_, e, rfl⟩ F.entry_list_clear (F.args_list_clear_1 _) (AutoSeq1.list_clear_list_0 l its.toArray n (by rw [List.size_toArray]; omega)) ⟨e, ?_⟩
  exact ⟨.non, _, I.lset (its' := []) (ys := []) hH e rfl .nil (Nat.zero_le _), rfl, q⟩
inductive rCat (x : V) (y : V) (H : Hp) (Q : VK) : Prop
  | mk (l b xs zs) (h1 : x = .ref l) (h2 : y = .ref b) (h3 : H l = some (.lst xs)) (h4 : H b = some (.lst zs)) (h5 : xs.length + zs.length ≤ sizeLine) (h6 : ∀ p, H p = none → Q (.ref p) (upd H p (.lst (xs ++ zs)))) : rCat x y H Q
theorem op_cat : OpR X (binaryOp .Add) rCat := by
  intro pins s σ H x y v u Q I rx ry h
  obtain ⟨l, b, xs, zs, rfl, rfl, hH, hB, hz, q⟩ := h
  cases rx
  cases ry
  obtain ⟨z, its, n, r, hl, e⟩ := I.lstM hH
  obtain ⟨z2, its2, n2, r2, hl2, e2⟩ := I.lstM hB
  refine PySem.P.add_list e e2 ?_ (by rw [List.size_toArray, List.size_toArray]; omega)
  have ea : its.toArray ++ its2.toArray = (its ++ its2).toArray := by simp
  rw [ea]
  exact ⟨.ref _, _, I.lnew (t' := s.toks) (r.append r2) (by rw [List.length_append]; omega), rfl, q _ I.fresh⟩
end
section
variable {prog : Program} {w : World} {A : Around} {E : Value → Shared → Prop} {s : Shared}
end
section
variable {X : Cx}
end
end L2
namespace L2
open PySem PySem.Spec PyProof.Rows
section
variable {κ : Type} [DecidableEq κ]
end
abbrev KT (H : Hp) : List (List Key × V) → List (List Key × Addr × Value) → Prop := Paired fun p q => p.1 = q.1 ∧ H q.2.1 = some (.tup (p.1.map kV)) ∧ RelV p.2 q.2.2
section
variable {P : Program} {w : World} {H : Hp} {h : Heap} {a : Addr}
end
section
variable {X : Cx} {pins : List (Addr × Obj)} {σ : St} {H : Hp} {s : Shared} {a : Addr} {y v : V} {u r : Value} {o : Option V} {A : Around} {E : Value → Shared → Prop}
end
section
variable {X : Cx} {pins : List (Addr × Obj)} {σ : St} {H : Hp} {s : Shared} {a : Addr} {kvs : List (Key × V)} {k : Key} {u : Value} {A : Around} {E : Value → Shared → Prop}
end
section
variable {X : Cx} {o i e value : Expr} {pos pos' tpos : Pos} {td ty tv : TE}
end
section
variable {X : Cx} {pos : Pos}
end
section
variable {X : Cx} {pins : List (Addr × Obj)} {σ : St} {H : Hp} {s : Shared} {a : Addr} {y d : V} {u r : Value} {o : Option V} {A : Around} {E : Value → Shared → Prop}
end
section
variable {X : Cx} {o e f : Expr} {apos cpos : Pos} {td ty tx : TE}
end
section
variable {X : Cx} {pins : List (Addr × Obj)} {σ : St} {H : Hp} {s : Shared} {a : Addr} {kvs : List (Key × V)} {A : Around} {E : Value → Shared → Prop}
end
section
variable {X : Cx} {pins : List (Addr × Obj)} {σ : St} {H : Hp} {s : Shared} {a : Addr} {y : V} {u : Value} {A : Around} {E : Value → Shared → Prop}
end
end L2
namespace Att
open PySem PySem.W PySem.Calls PyProof.Rows
theorem ints_of_wellAll {P : Params} {h : Heap} : ∀ (ns : List Int) (vs : List Value), WellAll P h vs (ns.map WData.int) → IntsAre vs ns := by
  intro ns
  induction ns with
  | nil =>
    intro vs w
    rw [List.map_nil] at w
    cases w
    exact .nil
  | cons n ns ih =>
    intro vs w
    rw [List.map_cons] at w
    cases w with
    | cons a b =>
      cases a
      exact .cons _ _ (ih _ b)
theorem script_of {l : OpenLaw} {n : Nat} (hn : l.most = some n) {P : Params} {h : Heap} {args : List WData} {vals : List Value}
    (hpre : l.row.toRowW.claim.pre args = true) (hwl : WellAll P h vals args) :
    ∃ a vs ns, vals = [Value.ref a] ∧ args = [WData.list (ns.map WData.int)] ∧ h.get? a = some { cls := .type "list", data := .seq vs.toArray } ∧ IntsAre vs ns ∧ ns.length ≤ n := by
  have hsh : WShape.hasAll [] args [.list .int] = true := (pre_splitW hpre).1
  have hc : l.pre.holds [] { args := args } = true := (pre_splitW hpre).2
  obtain ⟨d, r, rfl, h1, h2⟩ := hasAllW_cons hsh
  obtain rfl := hasAllW_nil h2
  obtain ⟨xs, rfl, h3⟩ := hasW_list h1
  obtain ⟨ns, rfl⟩ := items_int h3
  have hlen : ns.length ≤ n := by
    unfold OpenLaw.pre at hc
    have h4 : (WTm.not (.lt (.lit (.int (n : Int))) (.len (.arg 0)))).holds [] { args := [.list (ns.map .int)] } = true := by
      have h4 := (holds_andW hc).1
      rw [hn] at h4
      exact h4
    have h5 := condW_of h4 (w_not (w_lt w_lit (w_len_list (w_arg rfl))))
    rw [List.length_map] at h5
    refine Nat.le_of_not_lt fun q => ?_
    have q' : (n : Int) < ((ns.length : Nat) : Int) := by omega
    first
      | (rw [decide_eq_true q'] at h5; exact absurd h5 (by decide))
      | (simp at h5; omega)
  cases hwl with
  | cons w1 w2 =>
    cases w2
    cases w1 with
    | list ho hall => exact ⟨_, _, ns, rfl, rfl, ho, ints_of_wellAll ns _ hall, hlen⟩
theorem post_true (l : OpenLaw) (args : List WData) : l.row.toRowW.claim.post args (.bool true) args = true :=
  postW_of (r := l.row.toRowW) (X := (true == true))
    (show WShape.has [] (.bool true) .bool = true by first | rfl | decide | simp [WShape.has, WShape.arms, WShape.armsAll])
    (show (WTm.eq .res (.lit (.bool true))).value [] { args := args, res := some (.bool true), after := args } = some (.bool (true == true)) from w_eq_bool (w_res rfl) w_lit) rfl
theorem attach_call {l : OpenLaw} {n : Nat} {q : Program} {loose : List Str} {XP : (Str → Option Value) → Heap → Prop} {YP : World → Heap → Prop} {d : DefRec}
    (hn : l.most = some n) (hdf : d.params.defaults = [])
    (call : ∀ (w : World) (s₀ s₁ : Shared) (mg mb : Str → Option Value) (fa : Addr) (o : Obj) (pm cd doc : Value) (a : Addr) (vs : List Value) (ns : List Int),
      Ground q loose [] XP w s₀ mg mb s₁.heap → YP w s₁.heap →
      s₁.heap.get? fa = some o → o.data = .func (docDef d.name d.params d.body d.scope pm cd doc) → s₁.heap.CodeRec cd d.name → mg d.name = some (.ref fa) →
      s₁.heap.get? a = some { cls := .type "list", data := .seq vs.toArray } → IntsAre vs ns → ns.length ≤ n → s₁.gens = #[] →
      codeAny (model l.prog w) callerA (.call (.ref fa) ⟨[.ref a], []⟩) (fun r s' => r = .ok (.ret (.bool true)) ∧ OldK s₁.heap s'.heap ∧ s'.os = s₁.os ∧ AllBare s'.gens) s₁) :
    WalkO q loose XP YP l.row.toRowW d [] (fun f vs => PySem.call f vs) := by
  intro w s₀ s₁ mg mb G Y fa o pm cd doc dV kV ho hd hcd hD hmg hg args vals as hpre hlay hrd hwl hlo
  obtain rfl : dV = .none := Dflts.none hD hdf
  obtain rfl : kV = .none := Dflts.noKw hD
  obtain ⟨a, vs, ns, rfl, rfl, hobj, hints, hlen⟩ := script_of hn hpre hwl
  refine enter_call (codeAny_mono (call w s₀ s₁ mg mb fa o pm cd doc a vs ns G Y ho (fd_plain hd) hcd hmg hobj hints hlen hg) fun r s' hq => ?_)
  obtain ⟨rfl, h2, h3, h4⟩ := hq
  exact ⟨.inl ⟨.bool true, .bool true, [], rfl, fun _ => rfl, .bool true, post_true l _, fun _ => ⟨List.Pairwise.nil, fun _ hm => (nomatch hm)⟩⟩, h2, h3, h4⟩
section
variable {prog : Program} {w : World} {A : Around} {E : Value → Shared → Prop} {s : Shared} {K : Frag}
end
end Att
namespace L2
open PySem PySem.Spec PyProof.Rows
theorem vals_ints : ∀ {vs : List Value} {ns : List Int}, IntsAre vs ns → Vals (ns.map V.int) vs
  | _, _, .nil => .nil
  | _, _, .cons n t h => .cons ⟨t, rfl⟩ (vals_ints h)
def Only (H : Hp) : Prop := ∀ b, H b = none ∨ ∃ o xs, H b = some (.frz o (.lst xs))
theorem law_call {P : Program} {w : World} {K : PySem.W.Frag} {mg mb : Str → Option Value} {CX : CXT} {k : Nat} {fa a : Addr} {fd : FuncData} {x : Str} {sp : Sp} {s₁ : Shared} {vs : List Value} {ns : List Int}
    (KX : K.In s₁.heap) (hns : s₁.heap.Ns mainGlobals mg) (hb : s₁.heap.Ns builtinsNs mb) (hbb : ∀ x : Str, x ≠ "__name__" → mb x = bootBuiltins x) (hlim : s₁.heap.NoLimit) (hg : s₁.gens = #[])
    (ha : s₁.heap.get? a = some { cls := .type "list", data := .seq vs.toArray }) (hi : IntsAre vs ns) (hl : ns.length ≤ sizeLine) (hr : Room k callerA)
    (F : ∀ base : Heap, K.In base → base.Ns mainGlobals mg → FnOk P w K mg base CX k fa fd [x] sp) (hbind : ∀ (s : Shared) (u : Value), BindsTo s fd ⟨[u], []⟩ [(x, u)])
    (hsp : ∀ H : Hp, Only H → SqL K H a (ns.map V.int) → sp [.ref a] H (fun v _ => v = .bl true) fun _ _ _ => False)
    (hCX : ∀ H e s', CX [] H s₁ (fun _ _ _ => False) e s' → False) :
    codeAny (model P w) callerA (.call (.ref fa) ⟨[.ref a], []⟩) (fun r s' => r = .ok (.ret (.bool true)) ∧ OldK s₁.heap s'.heap ∧ s'.os = s₁.os ∧ AllBare s'.gens) s₁ := by
  have rv := vals_ints hi
  have lenV := hi.length
  have core : ∀ H : Hp, Only H → SqL K H a (ns.map V.int) → HOk P w H s₁.heap → (∀ b, H b ≠ none → b = a) → (H a ≠ none → K.lookup a = none) →
      codeAny (model P w) callerA (.call (.ref fa) ⟨[.ref a], []⟩) (fun r s' => r = .ok (.ret (.bool true)) ∧ OldK s₁.heap s'.heap ∧ s'.os = s₁.os ∧ AllBare s'.gens) s₁ := by
    intro H hO hS hok hA hK
    have base_of : ∀ {b : Addr} {o : Obj}, s₁.heap.get? b = some o → H b = none → (hidT s₁.heap H).get? b = some o := fun e n => hidT_get e n
    have noA : ∀ {b : Addr} {o : Obj} {es : Array DictEntry} {ep : Nat}, s₁.heap.get? b = some o → o.data = .dict es ep → H b = none := fun {b o es ep} e d => by
      cases q : H b with
      | none => rfl
      | some u =>
        have e' : b = a := hA b (by rw [q]; simp)
        subst e'
        rw [ha] at e; cases e
        have d' : Data.seq vs.toArray _ = Data.dict es ep := d
        cases d'
    have nsK : ∀ {b : Addr} {m : Str → Option Value}, s₁.heap.Ns b m → (hidT s₁.heap H).Ns b m := fun {b m} ⟨o, es, ep, e, d, r⟩ => ⟨o, es, ep, base_of e (noA e d), d, r⟩
    have hKb : K.In (hidT s₁.heap H) := fun b o e => base_of (KX b o e) (by
      cases q : H b with
      | none => rfl
      | some u =>
        have e' : b = a := hA b (by rw [q]; simp)
        subst e'
        rw [hK (by rw [q]; simp)] at e; cases e)
    have hM : Mod K mg (hidT s₁.heap H) := ⟨hKb, nsK hns, ⟨mb, nsK hb, hbb⟩, let ⟨mc, h1, h2⟩ := hlim; ⟨mc, nsK h1, h2⟩⟩
    have e0 : Env0 P w K mg (hidT s₁.heap H) callerA [] s₁ H := ⟨rfl, hM, fun b o e => of_hidT e, Nat.le_of_eq (hidT_size _ _), trivial, fun b hb => absurd (show b ∈ ([] : List Addr) from hb) (by simp), hok, .of_eq hg⟩
    refine codeAny_mono ((F _ hKb (nsK hns)).run callerA [] s₁ H ⟨[.ref a], []⟩ [.ref a] [.ref a] _ _ hr e0 (hbind s₁ (.ref a)) (.cons rfl .nil) (hsp H hO hS)) fun r s' h => ?_
    cases r with
    | error e => exact (hCX H e s' h).elim
    | ok fl =>
      cases fl with
      | next => exact False.elim h
      | brk => exact False.elim h
      | cont => exact False.elim h
      | ret u =>
        obtain ⟨v, H', os, bare, un, hok', r', q⟩ := h
        have q' : v = .bl true := q
        subst q'
        obtain rfl : u = Value.bool true := r'
        refine ⟨rfl, OldK.of_keep fun b o e => ?_, os, bare⟩
        cases q : H b with
        | none => exact un.keep b o e q (by intro z; exact absurd (show b ∈ ([] : List Addr) from z) (by simp)) (by simp)
        | some u =>
          rcases hO b with z | ⟨ob, xs, z⟩
          · rw [q] at z; cases z
          · have z2 := un.frzs b ob _ z
            obtain ⟨e1, _⟩ := hok b _ z
            obtain ⟨e2, _⟩ := hok' b _ z2
            rw [e] at e1; cases e1
            exact e2
  cases hk : K.lookup a with
  | some o =>
    have e := KX a o hk
    rw [ha] at e
    cases e
    refine core (fun _ => none) (fun _ => .inl rfl) (.inr ⟨_, vs.toArray, _, hk, rfl, rfl, rfl, by rw [List.size_toArray, lenV]; exact hl, by simpa using rv⟩) (fun b u z => by have z' : (none : Option HO) = some u := z; cases z') (fun b z => absurd rfl z) fun z => absurd rfl z
  | none =>
    refine core (fun b => if b = a then some (.frz { cls := .type "list", data := .seq vs.toArray } (.lst (ns.map V.int))) else none) (fun b => ?_) (.inl (.inr ⟨{ cls := .type "list", data := .seq vs.toArray }, if_pos rfl⟩)) (fun b u z => ?_) (fun b z => ?_) fun _ => hk
    · by_cases hb : b = a
      · exact .inr ⟨_, _, if_pos hb⟩
      · exact .inl (if_neg hb)
    · by_cases hb : b = a
      · have z' := (if_pos hb).symm.trans z
        cases z'
        subst hb
        exact ⟨ha, by rw [List.length_map]; exact hl, vs, _, rv, ha⟩
      · have z' := (if_neg hb).symm.trans z
        cases z'
    · by_cases hb : b = a
      · exact hb
      · exact absurd (if_neg hb) z
end L2
namespace L2
open PySem PySem.Spec PyProof.Rows
theorem walk_of {l : PySem.W.OpenLaw} {n k : Nat} {q : Program} {loose : List Str} {XP : (Str → Option Value) → Heap → Prop} {YP : World → Heap → Prop} {d : DefRec} {K : Params → PySem.W.Frag} {CX : World → CXT} {sp : World → Sp} {x : Str}
    (hn : l.most = some n) (hn2 : n ≤ sizeLine) (hdf : d.params.defaults = []) (hr : Room k callerA)
    (hY : ∀ (w : World) (h : Heap), YP w h → (K w.params).In h)
    (F : ∀ (w : World) (mg : Str → Option Value) (fa : Addr) (h : Heap), (K w.params).In h → h.Ns mainGlobals mg → mg d.name = some (.ref fa) →
      ∃ fd : FuncData, (∀ (s : Shared) (u : Value), BindsTo s fd ⟨[u], []⟩ [(x, u)]) ∧
        ∀ base : Heap, (K w.params).In base → base.Ns mainGlobals mg → FnOk l.prog w (K w.params) mg base (CX w) k fa fd [x] (sp w))
    (hsp : ∀ (w : World) (H : Hp) (a : Addr) (ns : List Int), ns.length ≤ n → Only H → SqL (K w.params) H a (ns.map V.int) → sp w [.ref a] H (fun v _ => v = .bl true) fun _ _ _ => False)
    (hCX : ∀ (w : World) (H : Hp) (s : Shared) (e : Value) (s' : Shared), CX w [] H s (fun _ _ _ => False) e s' → False) :
    PySem.W.WalkO q loose XP YP l.row.toRowW d [] (fun f vs => PySem.call f vs) := by
  refine Att.attach_call hn hdf fun w s₀ s₁ mg mb fa o pm cd doc a vs ns G Y ho hd hcd hmg hobj hints hlen hg => ?_
  have KX := hY w _ Y
  obtain ⟨fd, hb, hF⟩ := F w mg fa _ KX G.T.g hmg
  exact law_call KX G.T.g G.T.b G.T.builtins G.T.nolimit hg hobj hints (Nat.le_trans hlen hn2) hr hF hb (fun H hO hS => hsp w H a ns hlen hO hS) fun H e s' => hCX w H s₁ e s'
theorem walk_ofK {l : PySem.W.OpenLaw} {n k : Nat} {q : Program} {loose : List Str} {XP : (Str → Option Value) → Heap → Prop} {YP : World → Heap → Prop} {d : DefRec} {K : Params → PySem.W.Frag} {CX : CXT} {sp : PySem.W.Frag → Sp} {x : Str}
    (hn : l.most = some n) (hn2 : n ≤ sizeLine) (hdf : d.params.defaults = []) (hr : Room k callerA)
    (hY : ∀ (w : World) (h : Heap), YP w h → (K w.params).In h)
    (F : ∀ (w : World) (mg : Str → Option Value) (fa : Addr) (h : Heap), (K w.params).In h → h.Ns mainGlobals mg → mg d.name = some (.ref fa) →
      ∃ fd : FuncData, (∀ (s : Shared) (u : Value), BindsTo s fd ⟨[u], []⟩ [(x, u)]) ∧
        ∀ base : Heap, (K w.params).In base → base.Ns mainGlobals mg → FnOk l.prog w (K w.params) mg base CX k fa fd [x] (sp (K w.params)))
    (hsp : ∀ (K : PySem.W.Frag) (H : Hp) (a : Addr) (ns : List Int), ns.length ≤ n → Only H → SqL K H a (ns.map V.int) → sp K [.ref a] H (fun v _ => v = .bl true) fun _ _ _ => False)
    (hCX : ∀ (H : Hp) (s : Shared) (e : Value) (s' : Shared), CX [] H s (fun _ _ _ => False) e s' → False) :
    PySem.W.WalkO q loose XP YP l.row.toRowW d [] (fun f vs => PySem.call f vs) :=
  walk_of (K := K) (CX := fun _ => CX) (sp := fun w => sp (K w.params)) hn hn2 hdf hr hY F (fun w H a ns h1 h2 h3 => hsp (K w.params) H a ns h1 h2 h3) fun _ H s e s' => hCX H s e s'
end L2
namespace L2
open PySem PySem.Spec PyProof.Rows
def inClass (s : Stmt) (j : Nat) : Stmt := match s with
  | .ClassDef _ _ _ body _ _ _ _ _ _ _ => body.getD j (.Pass ⟨0, 0, 0, 0⟩)
  | _ => .Pass ⟨0, 0, 0, 0⟩
def defArgs (s : Stmt) : Arguments := match s with
  | .FunctionDef _ a _ _ _ _ _ _ _ _ => a
  | _ => { posonlyargs := [], args := [], vararg := none, kwonlyargs := [], kw_defaults := [], kwarg := none, defaults := [] }
def defBody (s : Stmt) : List Stmt := match s with
  | .FunctionDef _ _ b _ _ _ _ _ _ _ => b
  | _ => []
def defScope (s : Stmt) : Scope := match s with
  | .FunctionDef _ _ _ _ _ _ sc _ _ _ => sc
  | _ => { kind := .function, names := [], isGenerator := false, isCoroutine := false }
abbrev CX0 : CXT := fun _ _ _ _ _ _ => False
abbrev E0 : XK := fun _ _ _ => False
theorem pass0 {X : Cx} : Passes CX0 X E0 := fun _ _ _ _ _ _ _ h => h.elim
structure Fun (K : PySem.W.Frag) (x qual : Str) (st : Stmt) (f : Addr) (fd : FuncData) : Prop where
  ex : ∃ (oc : Value) (od : Option Addr) (kV doc pm : Value) (an : Option Addr) (cdv ct : Value) (osl : Array (Option Value)),
    fd = PySem.W.fnOf x qual (defArgs st) (defBody st) (defScope st) .none kV doc pm an cdv ct ∧ K.lookup f = some ⟨oc, od, .func fd, osl⟩ ∧ PySem.W.codeIn K cdv qual = true
  kp : PySem.W.keepIn K (.ref f) = true
section
variable {P : Program} {w : World} {K : PySem.W.Frag} {mg : Str → Option Value} {base : Heap}
theorem Fun.ok {x qual : Str} {st : Stmt} {f : Addr} {fd : FuncData} {N ps : List Str} {k : Nat} {sp : Sp} (F : Fun K x qual st f fd) (S : FnScope N ps (defScope st)) (len : ∀ vs H Q E, sp vs H Q E → vs.length = ps.length)
    (hbody : ∀ (cdv : Value) (A : Around) (outer : List Env) (s : Shared) (H : Hp) (vs : List V) (Q : VK) (E : XK), Room k (A.deeper (envOfC qual (defScope st) s.heap.objs.size f cdv)) → sp vs H Q E →
      ∃ t, PSs (cxOf CX0 P w K mg base N qual (defScope st) f cdv A outer s H E).nox (defBody st) t ∧ t { nx := fun _ H' => Q .non H', rt := Q } (start N vs) H) : FnOk P w K mg base CX0 (k + 1) f fd ps sp := by
  obtain ⟨oc, od, kV, doc, pm, an, cdv, ct, osl, rfl, lk, hcd⟩ := F.ex
  refine fn_of lk hcd S len fun A outer s H vs Q E hr hsp => ?_
  obtain ⟨t, h, q⟩ := hbody cdv A outer s H vs Q E hr hsp
  exact ⟨t, h.nox, q⟩
theorem Fun.binds {x qual : Str} {st : Stmt} {f : Addr} {fd : FuncData} {ps : List Str} (F : Fun K x qual st f fd)
    (h : ∀ (kV doc pm : Value) (an : Option Addr) (cdv ct : Value) (us : List Value), us.length = ps.length → bindArgs (PySem.W.fnOf x qual (defArgs st) (defBody st) (defScope st) .none kV doc pm an cdv ct) ⟨us, []⟩ = pure (ps.zip us)) : Binds K fd ps [] := by
  obtain ⟨oc, od, kV, doc, pm, an, cdv, ct, osl, rfl, lk, hcd⟩ := F.ex
  exact .all (h kV doc pm an cdv ct)
theorem fun_mk {x qual : Str} {st : Stmt} {f : Addr} {oc : Value} {od an : Option Addr} {osl : Array (Option Value)} {kV doc pm cdv ct : Value} (l : K.lookup f = some ⟨oc, od, .func (PySem.W.fnOf x qual (defArgs st) (defBody st) (defScope st) .none kV doc pm an cdv ct), osl⟩)
    (c : PySem.W.codeIn K cdv qual = true) (k : PySem.W.keepIn K (.ref f) = true) : Fun K x qual st f (PySem.W.fnOf x qual (defArgs st) (defBody st) (defScope st) .none kV doc pm an cdv ct) := ⟨⟨oc, od, kV, doc, pm, an, cdv, ct, osl, rfl, l, c⟩, k⟩
end
theorem hu_of {A : Around} {k : Nat} (hr : Room k A) : A.units + 1 < cLine := Nat.lt_of_le_of_lt (Nat.add_le_add_left (by decide : 1 ≤ 64) _) hr.units
theorem small1000 {n : Nat} (h : n ≤ 1000) : n < sizeLine := Nat.lt_of_le_of_lt h (by decide)
section
variable {X : Cx}
theorem pv (i : Nat) {x : Str} {pos : Pos} (hN : X.N[i]? = some x := by rfl) (hv : Vis X.env.scope x := by first | exact Or.inl rfl | exact Or.inr (Or.inl rfl) | exact Or.inr (Or.inr rfl)) (hd : (x == ("__debug__" : Str)) = false := by decide)
    (hcd : (x == ("__classdict__" : Str)) = false := by decide) : PE X (.Name x pos) (tVar i) := pe_var hN hv hd hcd
end
theorem iteF {A B : Prop} (h : B) : if false = true then A else B := by
  rw [if_neg Bool.false_ne_true]
  exact h
theorem iteT {A B : Prop} (h : A) : if true = true then A else B := by
  rw [if_pos rfl]
  exact h
theorem ite2 {c A B : Prop} [Decidable c] (h1 : c → A) (h2 : ¬ c → B) : if c then A else B := by
  by_cases h : c
  · rw [if_pos h]
    exact h1 h
  · rw [if_neg h]
    exact h2 h
section
variable {κ : Type} [DecidableEq κ]
end
end L2
set_option maxHeartbeats 4000000
namespace L2
open PySem PySem.Spec PyProof.Rows
section
variable {X : Cx} {pins : List (Addr × Obj)} {σ : St} {H : Hp} {s : Shared} {h' : Heap}
end
section
variable {X : Cx}
end
section
variable {prog : Program} {w : World} {A : Around} {E : Value → Shared → Prop} {s : Shared}
end
end L2
namespace L2
open PySem PySem.Spec PyProof.Rows
section
variable {prog : Program} {w : World} {A : Around} {E : Value → Shared → Prop} {s : Shared}
end
end L2
namespace L2
open PySem PySem.Spec PyProof.Rows
section
variable {prog : Program} {w : World} {A : Around} {E : Value → Shared → Prop} {s : Shared} {a₀ : Array Keyed} {p : Array (Nat × Nat × Nat)}
end
end L2
namespace L2
open PySem PySem.Spec PyProof.Rows
def ky (q : Keyed) : Int := numOf q.1
end L2
namespace L2
open PySem PySem.Spec PyProof.Rows
section
variable {prog : Program} {w : World} {A : Around} {E : Value → Shared → Prop} {s : Shared}
end
end L2
namespace L2
open PySem PySem.Spec PyProof.Rows
section
variable {prog : Program} {w : World} {A : Around} {E : Value → Shared → Prop} {s : Shared}
end
end L2
namespace L2
open PySem PySem.Spec PyProof.Rows
section
variable {prog : Program} {w : World} {A : Around} {E : Value → Shared → Prop} {s : Shared} {a₀ : Array Keyed} {p : Array (Nat × Nat × Nat)}
end
end L2
namespace L2
open PySem PySem.Spec PyProof.Rows
section
variable {prog : Program} {w : World} {A : Around} {E : Value → Shared → Prop} {s : Shared} {a₀ : Array Keyed}
end
end L2
namespace L2
open PySem PySem.Spec PyProof.Rows
def most : Nat := 1000
section
variable {prog : Program} {w : World} {A : Around} {E : Value → Shared → Prop} {s : Shared} {hb : Heap} {fa : Addr} {mp : Str → Option Value} {bk : List (Addr × Obj)} {a st : Addr} {xs : List Value} {ks : List Int} {ka : Array Value} {c1 c2 : Nat}
end
end L2
namespace L2
open PySem PySem.Spec PyProof.Rows
section
variable {X : Cx} {pins : List (Addr × Obj)} {σ : St} {H : Hp} {s : Shared}
end
section
variable {X : Cx} {e : Expr} {kws : List Keyword} {t tk : TA} {p pos : Pos}
end
end L2
namespace L2
open PySem PySem.Spec PyProof.Rows
section
variable {X : Cx} {pins : List (Addr × Obj)} {σ : St} {H : Hp} {s : Shared}
end
section
variable {X : Cx}
end
section
variable {X : Cx}
end
end L2
namespace L2
open PySem PySem.Spec PyProof.Rows
end L2
namespace Strip
section
variable {M : Type} [DecidableEq M]
abbrev Row (M : Type) := Int × Int × M
def Has (r : Row M) (n : Int) : Prop := r.1 ≤ n ∧ n ≤ r.2.1
instance (r : Row M) (n : Int) : Decidable (Has r n) := by unfold Has; exact inferInstance
def dayOf : List (Row M) → Int → Option M
  | [], _ => none
  | r :: t, n => match dayOf t n with
    | some m => some m
    | none => if Has r n then some r.2.2 else none
def Lt (r s : Row M) : Prop := r.2.1 < s.1
structure Rising (rs : List (Row M)) : Prop where
  lt : rs.Pairwise Lt
  le : ∀ r ∈ rs, r.1 ≤ r.2.1
def Beside (r s : Row M) : Prop := r.2.1 + 1 = s.1 ∧ r.2.2 = s.2.2
instance (r s : Row M) : Decidable (Beside r s) := by unfold Beside; exact inferInstance
structure Tidy (rs : List (Row M)) : Prop where
  up : Rising rs
  no : ∀ (i : Nat) (r s : Row M), rs[i]? = some r → rs[i + 1]? = some s → ¬ Beside r s
end
end Strip
namespace L2
open PySem PySem.Spec PyProof.Rows
section
variable {T : Addr} {pos : Pos} {q : Str} {H H' : Hp}
end
end L2
namespace L2
open PySem PySem.Spec PyProof.Rows
section
variable {X : Cx}
theorem call_isinst : CallR X (.builtin "isinstance") (fun xs H Q => ∃ x n t b, xs = [x, .ty n] ∧ TyOf X.K H x t ∧ PySem.W.kitOne X.K t (.type n) = some b ∧ Q (.bl b) H) := by
  intro pins s σ H xs us Q I r h
  obtain ⟨x, n, t, b, rfl, ty, e, q⟩ := h
  obtain ⟨u, u2, rfl, rx, rt⟩ := vals2 r
  cases (show u2 = Value.type n from rt)
  exact isinst_ok I rx ty e fun tk => ⟨.bl b, H, I.tok _, rfl, q⟩
end
end L2
namespace L2
open PySem PySem.Spec PyProof.Rows
end L2
namespace Strip
section
variable {M : Type} [DecidableEq M]
end
end Strip
namespace L2
open PySem PySem.Spec PyProof.Rows
def compX (X : Cx) (scope : Scope) (cl : List (Str × Addr)) (N : List Str) (C : Addr) (fp : List Addr) (s : Shared) (H : Hp) : Cx where
  prog := X.prog
  w := X.w
  K := X.K
  mg := X.mg
  base := X.base
  A := X.A
  N := N
  s₀ := s
  H₀ := H
  env := compEnvC scope cl C X.env
  outer := X.stack
  stack := X.stack
  ex := fp
  fn := fun _ => false
  calm := true
  pn := []
  xe := fun _ _ => False
def subσ (sub : List Nat) (σ : St) : St := sub.map fun i => (σ[i]?).join
def PTs (X : Cx) (ifs : List Expr) (t : TT) : Prop :=
  ∀ (pins : List (Addr × Obj)) (s : Shared) (σ : St) (H : Hp) (Q : Bool → Hp → Prop), Inv X pins σ H s → t σ H Q →
    wpAny (model X.prog X.w) X.A (forIn ifs true fun c r => if r = true then do let ok ← isTrue c X.env (eval c X.env); pure (ForInStep.yield ok) else pure (ForInStep.yield r)) (TP X pins σ Q) X.xe s
theorem pts_nil {X : Cx} : PTs X [] (fun _ H Q => Q true H) := fun _ _ _ H _ I h => wpAny_tests_nil ⟨H, I, h⟩
theorem pts_one {X : Cx} {c : Expr} {t : TT} (h : PT X c t) : PTs X [c] t := fun pins s σ H Q I q => wpAny_tests_one (h pins s σ H Q I q)
def tComp (wi : TI) (sub : List Nat) (tt : TT) (te : TE) : TE := fun σ H Q => wi σ H fun J H1 => ∀ D, H1 D = none → ∃ W : Nat → Nat → List V → Hp → Prop, (∃ m, W 0 m [] (upd H1 D (.lst []))) ∧ ∀ i m ys H2, W i m ys H2 →
  (J.stop i H2 ∧ Q (.ref D) H2) ∨ (J.go i H2 ∧ ∃ N : List V → Hp → Prop, (∀ ys' H', N ys' H' → ∃ m', m' < m ∧ W (i + 1) m' ys' H') ∧ ∀ v H3, J.yld i H2 v H3 → tt (some v :: subσ sub σ) H3 fun b H4 => if b = true then
    te (some v :: subσ sub σ) H4 fun y H5 => H5 D = some (.lst ys) ∧ ys.length < sizeLine ∧ N (ys ++ [y]) (upd H5 D (.lst (ys ++ [y])))
    else N ys H4)
def PEC (X : Cx) (e iter : Expr) (scope : Scope) (te : TE) : Prop :=
  ∀ (pos : Pos) (pins : List (Addr × Obj)) (s : Shared) (σ : St) (H : Hp) (Q : VK) (use : Option (Value → Sem Unit)) (QV : Value → Shared → Prop), Inv X pins σ H s → te σ H Q →
    (∀ (D C : Addr) (H' : Hp) (s' : Shared), Inv X pins σ H' s' → FpOk X pins H' C → (∃ m, s'.heap.Ns C m) → Q (.ref D) H' → compPost (model X.prog X.w) X.A X.xe use QV (.ref D) C (.ok .next) s') →
    wpAny (model X.prog X.w) X.A (comprehension e scope X.env pos (newList []) false (eval iter X.env) use) QV X.xe s
theorem FpOk.turn {X : Cx} {pins : List (Addr × Obj)} {σ : St} {H : Hp} {s : Shared} {h' : Heap} {C : Addr} (f : FpOk X pins H C) (I : Inv X pins σ H s) (hs : Heap.SameBut C s.heap h') : Inv X pins σ H { s with heap := h' } :=
  I.turned (h' := h') (t' := s.toks) (it := C) (fun b o n e => (hs.2 b n).trans e) f.1 f.2.1 f.2.2.2.1 f.2.2.2.2.1 f.2.2.2.2.2
theorem pe_of {X : Cx} {elt tg iter : Expr} {ifs : List Expr} {scope : Scope} {pos : Pos} {te : TE} (h : PEC X (.ListComp elt [⟨tg, iter, ifs, 0⟩] scope pos) iter scope te) : PE X (.ListComp elt [⟨tg, iter, ifs, 0⟩] scope pos) te := by
  intro pins s σ H Q I q
  rw [eval_ListComp]
  refine h _ pins s σ H Q none _ I q fun D C H' s' K1 fC ⟨m, hm⟩ q => ⟨m, hm, fun h' hsb' => ⟨.ref D, H', fC.turn K1 hsb', rfl, q⟩⟩
theorem ps_setC {X : Cx} {elt tg iter : Expr} {ifs : List Expr} {scope : Scope} {pos spos py : Pos} {te : TE} {i : Nat} {y : Str} (hN : X.N.Nodup) (hi : X.N[i]? = some y) (hx : Loc X.env.scope y)
    (h : PEC X (.ListComp elt [⟨tg, iter, ifs, 0⟩] scope pos) iter scope te) (hsw : swapsWith (.ListComp elt [⟨tg, iter, ifs, 0⟩] scope pos) (some (.Name y py)) spos.line X.env = pure true := by rfl)
    (hf : X.fn y = true ∨ X.env.scope.names.lookup y = some .local := by first | exact .inl rfl | exact .inr rfl | assumption) : PS X (.Assign [.Name y py] (.ListComp elt [⟨tg, iter, ifs, 0⟩] scope pos) spos) (tAsg te (gName i)) := by
  intro pins s σ H D I q
  rw [exec_Assign_Name_used _ _ _ _ hsw]
  refine wpAny_bind (wpAny_standAt (wpAny_bind ?_))
  show wpAny _ X.A (do let _ ← comprehension (.ListComp elt [⟨tg, iter, ifs, 0⟩] scope pos) scope X.env _ (newList []) false (eval iter X.env) (some (assign (.Name y py) X.env))) _ _ s
  refine wpAny_bind (wpAny_mono (h _ pins s σ H _ (some (assign (.Name y py) X.env)) (fun _ s' => SP X pins D .next s') I q fun Da C H' s' K1 fC hm q => ?_) (fun _ s' hq => wpAny_pure (wpAny_pure hq)) fun _ _ e => e)
  show wpAny _ X.A (assign (.Name y py) X.env (.ref Da)) _ _ _
  refine wpAny_assign_Name (store_ok2 K1 hN hi hx (v := .ref Da) rfl (fun s2 I2 hh => ?_) hf)
  obtain ⟨m, hm⟩ := hm
  obtain ⟨a, hsb, ha⟩ := hh
  have hne : C ≠ a := by
    rcases ha with z | z
    · rw [z]; exact fC.2.1
    · exact fun e => fC.2.2.2.2.1 _ _ z e.symm
  exact ⟨m, hm.sameBut hsb hne, fun h' hs' => ⟨_, H', fC.turn I2 hs', q⟩⟩
section
variable {prog : Program} {w : World} {A : Around} {R : Result → Shared → Prop} {s : Shared}
abbrev compE (prog : Program) (w : World) (A : Around) (env : Env) (R : Result → Shared → Prop) : Value → Shared → Prop := notedBy (model prog w) A env fun x s' => R (.error x) s'
theorem comp_turns {elt tg iter : Expr} {ifs : List Expr} {scope : Scope} {pos : Pos} {it acc : Value} {env : Env} (J : Nat → Shared → Prop)
    (go : ∀ n s, J n s → wpAny (model prog w) A (pyNext it) (fun r s1 => match r with
      | none => R (.ok .next) s1
      | some v => wpAny (model prog w) A (letOwnedTupleGo tg it v) (fun _ s1' => wpAny (model prog w) A (assign tg env v) (fun _ s2 =>
          wpAny (model prog w) A (forIn ifs true fun c r => if r = true then do let ok ← isTrue c env (eval c env); pure (ForInStep.yield ok) else pure (ForInStep.yield r)) (fun b s3 =>
            if b = true then wpAny (model prog w) A (eval elt env) (fun x s4 => wpAny (model prog w) A (call (.builtin "list.append") [acc, x]) (fun _ s5 => ∃ m, m < n ∧ J m s5) (compE prog w A env R) s4) (compE prog w A env R) s3
            else ∃ m, m < n ∧ J m s3) (compE prog w A env R) s2) (compE prog w A env R) s1') (compE prog w A env R) s1) (compE prog w A env R) s)
    (n : Nat) (h0 : J n s) : codeAny (model prog w) A (.compLoop (.ListComp elt [⟨tg, iter, ifs, 0⟩] scope pos) 0 it acc env) R s := by
  refine codeAny_loop rfl J (fun n s hI => ?_) n h0
  have e : ((compTurn (.ListComp elt [⟨tg, iter, ifs, 0⟩] scope pos) 0 it acc env).onRaise fun x => do noteFrame x env; theTreesLotGoes x) = ((compTurn (.ListComp elt [⟨tg, iter, ifs, 0⟩] scope pos) 0 it acc env).onRaise fun x => do noteFrame x env; theTreesLotGoes x) := rfl
  show wpAny _ A ((compTurn (.ListComp elt [⟨tg, iter, ifs, 0⟩] scope pos) 0 it acc env).onRaise fun x => do noteFrame x env; theTreesLotGoes x) _ _ s
  apply wpAny_noted
  rw [compTurn_list]
  refine wpAny_bind (wpAny_standAt (wpAny_bind (thn (go n s hI) fun r s1 h1 => ?_)))
  cases r with
  | none => exact wpAny_pure h1
  | some v =>
    refine wpAny_bind (thn h1 fun _ s1' h1' => wpAny_bind (thn h1' fun _ s2 h2 => wpAny_bind (thn h2 fun b s3 h3 => ?_)))
    cases b with
    | false => exact wpAny_pure ⟨rfl, h3⟩
    | true => exact wpAny_bind (wpAny_bind (thn h3 fun x s4 h4 => wpAny_bind (thn h4 fun _ s5 h5 => wpAny_pure (wpAny_pure ⟨rfl, h5⟩))))
end
def CompG (g : TG) (n : Nat) (sub : List Nat) (tt : TT) (te : TE) (σ : St) (Q : VK) (J : It) (H1 : Hp) : Prop := ∀ D, H1 D = none → ∃ W : Nat → Nat → List V → Hp → Prop, (∃ m, W 0 m [] (upd H1 D (.lst []))) ∧ ∀ i m ys H2, W i m ys H2 →
  (J.stop i H2 ∧ Q (.ref D) H2) ∨ (J.go i H2 ∧ ∃ N : List V → Hp → Prop, (∀ ys' H', N ys' H' → ∃ m', m' < m ∧ W (i + 1) m' ys' H') ∧ ∀ v H3, J.yld i H2 v H3 → ∀ τ : List (Option V), τ.length = n → g v (τ ++ subσ sub σ) H3 fun σ' H' => (∃ τ' : List (Option V), τ'.length = n ∧ σ' = τ' ++ subσ sub σ) ∧ tt σ' H' fun c H4 => if c = true then
    te σ' H4 fun y H5 => H5 D = some (.lst ys) ∧ ys.length < sizeLine ∧ N (ys ++ [y]) (upd H5 D (.lst (ys ++ [y])))
    else N ys H4)
section
variable {X : Cx}
theorem pec_compX {elt tg iter : Expr} {xn : List Str} {g : TG} {CB : St → VK → It → Hp → Prop} {pos : Pos} {ifs : List Expr} {scope : Scope} {cl : List (Str × Addr)} {sub : List Nat} {fv : List Str} {wi : TI} {tt : TT} {te : TE}
    (hc : X.calm = true) (hi : PI X tg iter wi) (hclos : closureFor scope X.env = pure cl)
    (hcell : ∀ y ∈ scope.names, y.2 ≠ .cell) (hkind : scope.kind = .function) (hnames : ∀ y ∈ scope.names, y.2 = .local → scope.names.lookup y.1 = some .local)
    (hl : sub.length = fv.length) (hsub : ∀ (j : Nat) (i : Nat) (y : Str), sub[j]? = some i → fv[j]? = some y → X.N[i]? = some y ∧ Vis X.env.scope y ∧ X.env.kindOf y ≠ some .local)
    (hvis : ∀ y ∈ fv, (compEnvC scope cl 0 X.env).kindOf y = some .cell ∨ (compEnvC scope cl 0 X.env).kindOf y = some .free)
    (hcl : ∀ y c, cl.lookup y = some c → X.env.cells.lookup y = some c) (hcl2 : ∀ y ∈ fv, cl.lookup y = X.env.cells.lookup y)
    (hhas : ∀ y, ((compEnvC scope cl 0 X.env).kindOf y = some .cell ∨ (compEnvC scope cl 0 X.env).kindOf y = some .free) → ∃ c, cl.lookup y = some c)
    (hg : ∀ C fp s H, PG (compX X scope cl (xn ++ fv) C fp s H) tg g) (ht : ∀ C fp s H, PTs (compX X scope cl (xn ++ fv) C fp s H) ifs tt) (he : ∀ C fp s H, PE (compX X scope cl (xn ++ fv) C fp s H) elt te)
    (hCB : ∀ σ Q J H1, CB σ Q J H1 → CompG g xn.length sub tt te σ Q J H1) (hs : ∀ x, foldedSetIterable iter X.env x = pure x := by intro _; rfl) : PEC X (.ListComp elt [⟨tg, iter, ifs, 0⟩] scope pos) iter scope (fun σ H Q => wi σ H fun J H1 => CB σ Q J H1) := by
  intro upos pins s σ H Q use QV I h hend
  refine wpAny_comprehension_free (use := use) rfl hs hclos hkind hnames ?_
  refine thn (hi pins s σ H _ I h) fun v s1 h1 => thn h1 fun itv s2 h2 => ?_
  obtain ⟨it, fp, tn, J, H2, e, I2, T, st2, f2, h⟩ := h2
  subst e
  refine wpAny_newList ?_ (Nat.zero_le _)
  have nD : H2 s2.heap.objs.size = none := I2.hok.fresh (Nat.le_refl _)
  obtain ⟨W, ⟨m0, w0⟩, turn⟩ := hCB _ _ _ _ h s2.heap.objs.size nD
  have I3 := I2.lnew (ys := []) (its := []) (t' := s2.toks) .nil (Nat.zero_le _)
  generalize hs3 : ({ s2 with heap := s2.heap.push { cls := .type "list", data := .seq ([] : List Value).toArray }, toks := s2.toks } : Shared) = s3 at I3
  have hDlt : s2.heap.objs.size < s3.heap.objs.size := by rw [← hs3]; show _ < (s2.heap.push _).objs.size; rw [Heap.size_push]; exact Nat.lt_succ_self _
  have old3 : ∀ b o, s2.heap.get? b = some o → s3.heap.get? b = some o := fun b o e => by rw [← hs3]; exact Heap.get?_push_of_some _ e
  generalize hD : s2.heap.objs.size = D at *
  refine wpAny_newFunctionEnv hcell (by intro y hy; simp at hy) (fun h₁ hns hsb => ?_) hkind
  generalize hC : s3.heap.objs.size = C at *
  have kept : ∀ b o, s3.heap.get? b = some o → h₁.get? b = some o := fun b o e => (hsb.2 b (by rw [← hC]; exact Nat.ne_of_lt (Heap.lt_size e))).trans (Heap.get?_push_of_some _ e)
  have nC : upd H2 D (.lst []) C = none := I3.hok.fresh (Nat.le_of_eq hC)
  have fC : FpOk X pins (upd H2 D (.lst [])) C := I3.fpOk (Nat.le_of_eq hC) nC
  have fp3 : ∀ b ∈ fp, b < s2.heap.objs.size := fun b hb => by obtain ⟨o, e, _⟩ := T.obj _ _ st2 b hb; exact Heap.lt_size e
  have fpC : ∀ b ∈ fp, b ≠ C := fun b hb => by rw [← hC]; exact Nat.ne_of_lt (Nat.lt_of_lt_of_le (fp3 b hb) (by rw [hD]; exact Nat.le_of_lt (hC ▸ hDlt)))
  have fpD : ∀ b ∈ fp, b ≠ D := fun b hb => by rw [← hD]; exact Nat.ne_of_lt (fp3 b hb)
  have ok' : (compX X scope cl (xn ++ fv) C fp s3 (upd H2 D (.lst []))).Ok := by
    refine ⟨I.ok.mod, hkind, I.ok.glob, I.ok.blt, Nat.le_of_eq hC, fun y z c e1 e2 => I.ok.inj y z c (hcl y c e1) (hcl z c e2), fun y hy => hhas y hy, (fun y c e _ => by cases e), fun _ => I.ok.hd hc, I.ok.frames, .inl rfl, fun b hb => ⟨fpC b hb, fun y c e => (f2 b hb).2.2.2.2.1 y c (hcl y c e)⟩, I3.bs, Nat.le_trans I.ok.bsz I3.sz,
      fun b o e hb => ?_, fun b hb hf => ?_, I3.stack, I3.stkFree⟩
    · rcases (f2 b hb).2.2.2.1 with z | z
      · exact I.ok.noex b o e z
      · exact absurd (Nat.lt_of_lt_of_le (Heap.lt_size e) (Nat.le_trans I.ok.bsz z)) (Nat.lt_irrefl _)
    · rcases List.mem_cons.mp (I3.stkSub b hf) with z | z
      · exact (f2 b hb).2.1 z
      · exact (f2 b hb).2.2.1 z
  have lenσ : ∀ τ : List (Option V), τ.length = xn.length → (τ ++ subσ sub σ).length = (xn ++ fv).length := fun τ ht => by
    unfold subσ
    rw [List.length_append, List.length_append, List.length_map, hl, ht]
  have I4 : ∀ t', Inv (compX X scope cl (xn ++ fv) C fp s3 (upd H2 D (.lst []))) [] (List.replicate xn.length none ++ subσ sub σ) (upd H2 D (.lst [])) { s3 with heap := h₁, toks := t' } := fun t' => by
    refine ⟨ok', rfl, I3.bare, Un.kept kept, ⟨_, hns, fun i y v e1 e2 e3 => ?_⟩, fun y c e => ?_, nC, fun y c e => I3.freeC y c (hcl y c e), (fun p hp => by cases hp), I3.hok.kept kept, lenσ _ (List.length_replicate ..)⟩
    · by_cases hi : i < xn.length
      · rw [List.getElem?_append_left (by rw [List.length_replicate]; exact hi), List.getElem?_replicate, if_pos hi] at e2
        cases e2
      · have e1 : (xn ++ fv)[i]? = some y := e1
        rw [List.getElem?_append_right (by omega)] at e1
        rw [List.getElem?_append_right (by rw [List.length_replicate]; omega), List.length_replicate] at e2
        generalize i - xn.length = j at e1 e2
        unfold subσ at e2
        rw [List.getElem?_map] at e2
        cases ei : sub[j]? with
        | none => rw [ei] at e2; cases e2
        | some i =>
          rw [ei] at e2
          have e2 : (σ[i]?).join = some v := Option.some.inj e2
          obtain ⟨n1, n2, n3⟩ := hsub j i y ei e1
          have e4 : σ[i]? = some (some v) := by
            cases q : σ[i]? with
            | none => rw [q] at e2; cases e2
            | some w' => rw [q] at e2; cases w' with
              | none => cases e2
              | some v' => cases e2; rfl
          obtain ⟨m, hn, hl'⟩ := I3.loc
          obtain ⟨u, ru, lu⟩ := hl' i y v n1 e4 n2
          refine ⟨u, ru, ?_⟩
          rcases lu with ⟨k1, _⟩ | ⟨k1, c, ec, ic⟩
          · exact absurd k1 n3
          · have hy := List.mem_of_getElem? e1
            exact .inr ⟨hvis y hy, c, (hcl2 y hy).trans ec, ic.keeps kept⟩
    · obtain ⟨v, z⟩ := I3.cell y c (hcl y c e)
      exact ⟨v, z.keeps kept⟩
  have back : ∀ {σ' : St} {H' : Hp} {s' : Shared}, Inv (compX X scope cl (xn ++ fv) C fp s3 (upd H2 D (.lst []))) [] σ' H' s' → Q (.ref D) H' →
      compPost (model X.prog X.w) X.A X.xe use QV (.ref D) C (.ok .next) s' := fun {σ' H' s'} J' q => by
    obtain ⟨m, hm, _⟩ := id J'.loc
    have hos : s'.os = s3.os := J'.os
    have K1 : Inv X pins σ H' s' := I3.call' (ch := fp) hos J'.base J'.hok J'.bare fun b hb => ⟨(f2 b hb).2.2.2.1, (f2 b hb).2.1, (f2 b hb).2.2.2.2.1, (f2 b hb).2.2.2.2.2⟩
    exact hend D C H' s' K1 ⟨J'.free, fC.2⟩ ⟨m, hm⟩ q
  have stat : ∀ {H' : Hp}, (∀ b ∈ fp, H' b = none) → ∀ b ∈ fp, FpOk (compX X scope cl (xn ++ fv) C fp s3 (upd H2 D (.lst []))) [] H' b := fun hn b hb =>
    ⟨hn b hb, fpC b hb, ok'.exfs b hb, .inl hb, (ok'.exf b hb).2, (fun p hp => by cases hp)⟩
  have loop : ∀ t', codeAny (model X.prog X.w) X.A (.compLoop (.ListComp elt [⟨tg, iter, ifs, 0⟩] scope pos) 0 (.ref it) (.ref D) (compEnvC scope cl C X.env)) (compPost (model X.prog X.w) X.A X.xe use QV (.ref D) C) { s3 with heap := h₁, toks := t' } := fun t' => by
    refine comp_turns (fun n s' => ∃ (i : Nat) (ys : List V) (H' : Hp) (τ : List (Option V)), τ.length = xn.length ∧ Inv (compX X scope cl (xn ++ fv) C fp s3 (upd H2 D (.lst []))) [] (τ ++ subσ sub σ) H' s' ∧ tn i s'.heap ∧ (∀ b ∈ fp, H' b = none) ∧ W i n ys H') ?_ m0
      ⟨0, [], _, _, List.length_replicate .., I4 t', T.keep _ _ _ st2 (fun b hb o e => kept b o (old3 b o e)), fun b hb => by rw [upd_ne (fpD b hb)]; exact (f2 b hb).1, w0⟩
    rintro n s5 ⟨i, ys, H5, τ, hτ, I5, st5, fr5, w5⟩
    rcases turn i n ys H5 w5 with ⟨stop, q⟩ | ⟨go, NN, hNN, step⟩
    · refine wpAny_mono (T.done (compX X scope cl (xn ++ fv) C fp s3 (upd H2 D (.lst []))) rfl rfl rfl rfl i [] s5 _ H5 (fun _ _ => False) I5 (stat fr5) st5 stop) (fun r s6 hh => ?_) fun _ _ f => f.elim
      obtain ⟨hr, I6⟩ := hh
      subst hr
      exact back I6 q
    · refine wpAny_mono (T.item (compX X scope cl (xn ++ fv) C fp s3 (upd H2 D (.lst []))) rfl rfl rfl rfl i [] s5 _ H5 (fun _ _ => False) I5 (stat fr5) st5 go) (fun r s6 hh => ?_) fun _ _ f => f.elim
      obtain ⟨u, hr, h6⟩ := hh
      subst hr
      refine wpAny_mono h6 (fun _ s7 hh => ?_) fun _ _ f => f.elim
      obtain ⟨v, H7, I7, r7, y7, st7, fr7⟩ := hh
      have I7' := I7.pinned (stat fr7) (T.obj _ _ st7)
      refine wpAny_mono (hg C fp s3 _ _ s7 _ H7 v u _ I7' r7 (step v H7 y7 τ hτ)) (fun _ s8 hh => ?_) fun _ _ f => f.elim
      obtain ⟨_, H8, I8, ⟨τ', hτ', rfl⟩, step⟩ := hh
      have again : ∀ {H9 : Hp} {s9 : Shared} {ys9 : List V} {m9 : Nat}, Inv (compX X scope cl (xn ++ fv) C fp s3 (upd H2 D (.lst []))) ([] ++ pinsAt fp s7.heap) (τ' ++ subσ sub σ) H9 s9 → m9 < n → W (i + 1) m9 ys9 H9 →
          ∃ m, m < n ∧ ∃ (i : Nat) (ys : List V) (H' : Hp) (τ : List (Option V)), τ.length = xn.length ∧ Inv (compX X scope cl (xn ++ fv) C fp s3 (upd H2 D (.lst []))) [] (τ ++ subσ sub σ) H' s9 ∧ tn i s9.heap ∧ (∀ b ∈ fp, H' b = none) ∧ W i m ys H' := fun {H9 s9 ys9 m9} I9 hm w9 => by
        refine ⟨m9, hm, i + 1, ys9, H9, _, hτ', I9.unpinned, T.keep _ _ _ st7 fun b hb o e => (I9.pin (b, o) (List.mem_append_right _ (List.mem_append_right _ (mem_pinsAt hb e)))).1, fun b hb => ?_, w9⟩
        obtain ⟨o, e, d⟩ := T.obj _ _ st7 b hb
        exact (I9.pin (b, o) (List.mem_append_right _ (List.mem_append_right _ (mem_pinsAt hb e)))).2.1
      refine wpAny_mono (ht C fp s3 _ _ s8 _ H8 _ I8 step) (fun ok s9 hh => ?_) fun _ _ f => f.elim
      obtain ⟨H9, I9, q9⟩ := hh
      cases ok with
      | false =>
        rw [if_neg Bool.false_ne_true] at q9 ⊢
        obtain ⟨m', hm, w'⟩ := hNN _ _ q9
        exact again I9 hm w'
      | true =>
        rw [if_pos rfl] at q9 ⊢
        refine wpAny_mono (he C fp s3 _ _ s9 _ H9 _ I9 q9) (fun xv sa hh => ?_) fun _ _ f => f.elim
        obtain ⟨y, Ha, Ia, ra, hDa, hsz, qa⟩ := hh
        obtain ⟨m', hm, w'⟩ := hNN _ _ qa
        refine wpAny_mono (mt_append (X := compX X scope cl (xn ++ fv) C fp s3 (upd H2 D (.lst []))) _ sa _ Ha (.ref D) [y] (.ref D) [xv] (fun _ H' => H' = upd Ha D (.lst (ys ++ [y]))) Ia rfl (.cons ra .nil) ⟨D, ys, y, rfl, rfl, hDa, hsz, rfl⟩) (fun _ sb hh => ?_) fun _ _ f => f.elim
        obtain ⟨_, Hb, Ib, _, rfl⟩ := hh
        exact again Ib hm w'
  exact codeAny_compStart_list (loop _) (T.self X.A 0 _ _ _ (T.keep _ _ _ st2 (fun b hb o e => kept b o (old3 b o e))) (loop _))
theorem pec_comp {elt iter : Expr} {x : Str} {px pos : Pos} {ifs : List Expr} {scope : Scope} {cl : List (Str × Addr)} {sub : List Nat} {fv : List Str} {wi : TI} {tt : TT} {te : TE}
    (hc : X.calm = true) (hi : PI X (.Name x px) iter wi) (hclos : closureFor scope X.env = pure cl)
    (hcell : ∀ y ∈ scope.names, y.2 ≠ .cell) (hkind : scope.kind = .function) (hnames : ∀ y ∈ scope.names, y.2 = .local → scope.names.lookup y.1 = some .local) (hx : scope.names.lookup x = some .local)
    (hnd : (x :: fv).Nodup) (hl : sub.length = fv.length) (hsub : ∀ (j : Nat) (i : Nat) (y : Str), sub[j]? = some i → fv[j]? = some y → X.N[i]? = some y ∧ Vis X.env.scope y ∧ X.env.kindOf y ≠ some .local)
    (hvis : ∀ y ∈ fv, (compEnvC scope cl 0 X.env).kindOf y = some .cell ∨ (compEnvC scope cl 0 X.env).kindOf y = some .free)
    (hcl : ∀ y c, cl.lookup y = some c → X.env.cells.lookup y = some c) (hcl2 : ∀ y ∈ fv, cl.lookup y = X.env.cells.lookup y)
    (hhas : ∀ y, ((compEnvC scope cl 0 X.env).kindOf y = some .cell ∨ (compEnvC scope cl 0 X.env).kindOf y = some .free) → ∃ c, cl.lookup y = some c)
    (ht : ∀ C fp s H, PTs (compX X scope cl (x :: fv) C fp s H) ifs tt) (he : ∀ C fp s H, PE (compX X scope cl (x :: fv) C fp s H) elt te)
    (hs : ∀ x, foldedSetIterable iter X.env x = pure x := by intro _; rfl) : PEC X (.ListComp elt [⟨.Name x px, iter, ifs, 0⟩] scope pos) iter scope (tComp wi sub tt te) := by
  refine pec_compX (xn := [x]) (g := gName 0) hc hi hclos hcell hkind hnames hl hsub hvis hcl hcl2 hhas (fun C fp s H => pg_name (i := 0) hnd rfl (.inl (lookup_relabel_local hx)) (.inr (lookup_relabel_local hx))) ht he (fun σ Q J H1 h D nD => ?_) hs
  obtain ⟨W, w0, st⟩ := h D nD
  refine ⟨W, w0, fun i m ys H2 hw => (st i m ys H2 hw).imp id fun ⟨go, N, hN, h⟩ => ⟨go, N, hN, fun v H3 y τ hτ => ?_⟩⟩
  match τ, hτ with
  | [t0], _ => exact ⟨⟨[some v], rfl, rfl⟩, h v H3 y⟩
end
end L2
namespace Strip
section
variable {M : Type} [DecidableEq M]
structure Part (cs : List (Row M)) (f day : Int) (G : Int → M) : Prop where
  tidy : Tidy cs
  day : ∀ n, dayOf cs n = if f ≤ n ∧ n < day then some (G n) else none
end
end Strip
namespace L2
open PySem PySem.Spec PyProof.Rows
section
variable {X : Cx} {pins : List (Addr × Obj)} {σ : St} {H : Hp} {s : Shared}
end
section
variable {X : Cx}
end
end L2
namespace L2
open PySem PySem.Spec PyProof.Rows
theorem comp_list {K : PySem.W.Frag} {a D : Addr} {xs : List V} {σ : St} {sub : List Nat} {tt : TT} {te : TE} {Q : VK} {H : Hp} (Pv : Nat → List V → Hp → Prop) (h0 : Pv 0 [] (upd H D (.lst []))) (hl : ∀ i ys H, i ≤ xs.length → Pv i ys H → SqL K H a xs)
    (hs : ∀ i x ys H, xs[i]? = some x → Pv i ys H → tt (some x :: subσ sub σ) H fun b H4 => if b = true then te (some x :: subσ sub σ) H4 fun y H5 => H5 D = some (.lst ys) ∧ ys.length < sizeLine ∧ Pv (i + 1) (ys ++ [y]) (upd H5 D (.lst (ys ++ [y]))) else Pv (i + 1) ys H4)
    (hd : ∀ ys H, Pv xs.length ys H → Q (.ref D) H) :
    ∃ W : Nat → Nat → List V → Hp → Prop, (∃ m, W 0 m [] (upd H D (.lst []))) ∧ ∀ i m ys H2, W i m ys H2 →
      ((Itl K a).stop i H2 ∧ Q (.ref D) H2) ∨ ((Itl K a).go i H2 ∧ ∃ N : List V → Hp → Prop, (∀ ys' H', N ys' H' → ∃ m', m' < m ∧ W (i + 1) m' ys' H') ∧ ∀ v H3, (Itl K a).yld i H2 v H3 → tt (some v :: subσ sub σ) H3 fun b H4 => if b = true then
        te (some v :: subσ sub σ) H4 fun y H5 => H5 D = some (.lst ys) ∧ ys.length < sizeLine ∧ N (ys ++ [y]) (upd H5 D (.lst (ys ++ [y])))
        else N ys H4) := by
  refine ⟨fun i m ys H => m = xs.length - i ∧ i ≤ xs.length ∧ Pv i ys H, ⟨xs.length, rfl, Nat.zero_le _, h0⟩, ?_⟩
  rintro i m ys H ⟨rfl, hi, p⟩
  have q := hl i ys H hi p
  by_cases hlt : i < xs.length
  · refine .inr ⟨⟨xs, xs[i], q, by simp [hlt]⟩, Pv (i + 1), fun ys' H' p' => ⟨xs.length - (i + 1), by omega, rfl, hlt, p'⟩, fun x H' y => ?_⟩
    obtain ⟨e, y⟩ := y
    subst e
    exact hs i x ys _ (y xs q) p
  · have e : i = xs.length := by omega
    subst e
    exact .inl ⟨⟨xs, q, Nat.le_refl _⟩, hd ys H p⟩
end L2
namespace L2
open PySem PySem.Spec PyProof.Rows
end L2
namespace L2
open PySem PySem.Spec PyProof.Rows
section
variable {X : Cx}
theorem mt_startswith : MtR X "str.startswith" (fun x xs H Q => ∃ i j, x = .str i ∧ xs = [.str j] ∧ Q (.bl (Txt.startswith i j)) H) := by
  intro pins s σ H x xs v us Q I rx rv h
  obtain ⟨i, j, rfl, rfl, q⟩ := h
  obtain ⟨t, rfl⟩ := rx
  obtain ⟨u, rfl, t', rfl⟩ := vals1 rv
  exact PySem.SC.startswith ⟨.bl _, H, I, rfl, q⟩
theorem call_int_text : CallR X (.type "int") (fun xs H Q => ∃ x n, xs = [.str x] ∧ PySem.intText? x = some n ∧ x.length ≤ 640 ∧ Q (.int n) H) := by
  intro pins s σ H xs us Q I r h
  obtain ⟨x, n, rfl, hn, hl, q⟩ := h
  obtain ⟨u, rfl, t, rfl⟩ := vals1 r
  exact PySem.W.KIN.call_text hn hl ⟨.int n, H, I.tok _, ⟨_, rfl⟩, q⟩
theorem sl_str : SlR X (fun x lo hi H Q => ∃ z, x = .str z ∧ z.length ≤ sizeLine ∧ Q (.str (Txt.slice z lo hi)) H) := by
  intro pins s σ H x v vl vu lo hi sl Q I rx hs pl pu h
  obtain ⟨z, rfl, hz, q⟩ := h
  obtain ⟨t, rfl⟩ := rx
  refine ⟨"str", _, slot_str_getitem.lookup, typeIs_str s z t, ?_⟩
  have fin : ∀ l u : Option (Int × Tok), vl = partValue l → vu = partValue u → l.map (·.1) = lo → u.map (·.1) = hi →
      wpAny (model X.prog X.w) X.A (getItem (.str z t) (.ref sl)) (EP X pins σ Q) X.xe s := fun l u e1 e2 e3 e4 => by
    subst e1 e2 e3 e4
    refine wpAny_getItem_str_slice (l := l) (u := u) (st := none) hs rfl ?_
    have q2 : ∀ t', EP X pins σ Q (.str (Txt.slice z (l.map (·.1)) (u.map (·.1))) t') s := fun t' => ⟨.str _, H, I, ⟨t', rfl⟩, q⟩
    unfold sliceMade
    unfold Txt.slice at q2
    unfold Txt.slice at q
    by_cases c : ((((none : Option (Int × Tok)).map (·.1)).getD 1 : Int) == 1 && (slicePicked z l u none).length == z.length) = true
    · rw [if_pos c]
      rw [if_pos (show ((1 : Int) == 1 && (Builtin.Str.strSliceIndices (l.map (·.1)) (u.map (·.1)) 1 z.length).length == z.length) = true from c)] at q2
      exact q2 t
    · rw [if_neg c]
      rw [if_neg (show ¬ ((1 : Int) == 1 && (Builtin.Str.strSliceIndices (l.map (·.1)) (u.map (·.1)) 1 z.length).length == z.length) = true from c)] at q
      refine ⟨?_, ⟨.str _, H, I.tok _, ⟨_, rfl⟩, q⟩⟩
      have hle := Txt.slice_le z (l.map (·.1)) (u.map (·.1))
      unfold Txt.slice at hle
      rw [if_neg (show ¬ ((1 : Int) == 1 && (Builtin.Str.strSliceIndices (l.map (·.1)) (u.map (·.1)) 1 z.length).length == z.length) = true from c)] at hle
      exact Nat.le_trans hle hz
  cases pl with
  | none => cases pu with
    | none => exact fin none none rfl rfl rfl rfl
    | int j tj => exact fin none (some (j, tj)) rfl rfl rfl rfl
  | int i ti => cases pu with
    | none => exact fin (some (i, ti)) none rfl rfl rfl rfl
    | int j tj => exact fin (some (i, ti)) (some (j, tj)) rfl rfl rfl rfl
def Its (x : Str) : It := ⟨fun i _ => i < x.cps.size, fun i H v H' => H' = H ∧ ∃ c, x.cps[i]? = some c ∧ v = .str ⟨#[c]⟩, fun i _ => x.cps.size ≤ i⟩
theorem turn_ascii {P : Program} {w : World} {K : PySem.W.Frag} {tg : Expr} (x : Str) (t : Tok) (it : Addr) : Turn P w K tg (Its x) [it] it (fun i h => h.IsStrIter it "str_ascii_iterator" x t i) where
  mem := by simp
  obj := fun i h st b hb => by
    have e : b = it := by simpa using hb
    subst e
    obtain ⟨o, e, c, d⟩ := st
    exact ⟨o, e, fun v z => by rw [d] at z; cases z⟩
  keep := fun i h h' st k => let ⟨o, ho, r⟩ := st; ⟨o, k it (by simp) o ho, r⟩
  item := by
    intro X hP hw hK hc i pins s σ H E I hf st hg
    subst hP hw hK
    have hg : i < x.cps.size := hg
    obtain ⟨f0, f1, f2, f3, f4, f5⟩ := hf it (by simp)
    refine wpAny_pyNext_ascii_item st (c := x.cps[i]) (by simp [hg]) fun h' st' sb => ?_
    have I1 : Inv X pins σ H { s with heap := h', toks := s.toks + 1 } := I.turned (fun b o hb e => (sb.2 b hb).trans e) f0 f1 f3 f4 f5
    obtain ⟨o, e, c, d⟩ := id st'
    exact ⟨_, rfl, go_of (s := { s with heap := h', toks := s.toks + 1 }) e c d (by decide) ⟨.str ⟨#[x.cps[i]]⟩, H, I1, ⟨_, rfl⟩, ⟨rfl, _, by simp [hg], rfl⟩, st', fun b hb => (hf b hb).1⟩⟩
  done := by
    intro X hP hw hK hc i pins s σ H E I hf st hg
    subst hP hw hK
    have hg : x.cps.size ≤ i := hg
    obtain ⟨f0, f1, f2, f3, f4, f5⟩ := hf it (by simp)
    exact wpAny_pyNext_ascii_end (I.ok.hd hc) st (by simp; omega) fun h' eb => ⟨rfl, I.turned (t' := s.toks) (fun b o hb e => eb b o hb e) f0 f1 f3 f4 f5⟩
  self := fun _ _ _ _ _ st h => wpAny_pyIter_striter_ascii st h
theorem turn_wide {P : Program} {w : World} {K : PySem.W.Frag} {tg : Expr} (x : Str) (t : Tok) (it : Addr) : Turn P w K tg (Its x) [it] it (fun i h => h.IsStrIter it "str_iterator" x t i) where
  mem := by simp
  obj := fun i h st b hb => by
    have e : b = it := by simpa using hb
    subst e
    obtain ⟨o, e, c, d⟩ := st
    exact ⟨o, e, fun v z => by rw [d] at z; cases z⟩
  keep := fun i h h' st k => let ⟨o, ho, r⟩ := st; ⟨o, k it (by simp) o ho, r⟩
  item := by
    intro X hP hw hK hc i pins s σ H E I hf st hg
    subst hP hw hK
    have hg : i < x.cps.size := hg
    obtain ⟨f0, f1, f2, f3, f4, f5⟩ := hf it (by simp)
    refine wpAny_pyNext_wide_item st (c := x.cps[i]) (by simp [hg]) fun h' st' sb => ?_
    have I1 : Inv X pins σ H { s with heap := h', toks := s.toks + 1 } := I.turned (fun b o hb e => (sb.2 b hb).trans e) f0 f1 f3 f4 f5
    obtain ⟨o, e, c, d⟩ := id st'
    exact ⟨_, rfl, go_of (s := { s with heap := h', toks := s.toks + 1 }) e c d (by decide) ⟨.str ⟨#[x.cps[i]]⟩, H, I1, ⟨_, rfl⟩, ⟨rfl, _, by simp [hg], rfl⟩, st', fun b hb => (hf b hb).1⟩⟩
  done := by
    intro X hP hw hK hc i pins s σ H E I hf st hg
    subst hP hw hK
    have hg : x.cps.size ≤ i := hg
    obtain ⟨f0, f1, f2, f3, f4, f5⟩ := hf it (by simp)
    exact wpAny_pyNext_wide_end (I.ok.hd hc) st (by simp; omega) fun h' eb => ⟨rfl, I.turned (t' := s.toks) (fun b o hb e => eb b o hb e) f0 f1 f3 f4 f5⟩
  self := fun _ _ _ _ _ st h => wpAny_pyIter_striter_wide st h
def iStr (tl : TE) : TI := fun σ H R => tl σ H fun v H1 => ∃ x, v = .str x ∧ R (Its x) H1
theorem pi_str {tg l : Expr} {tl : TE} (hl : PE X l tl) : PI X tg l (iStr tl) := by
  intro pins s σ H R I h
  refine thn (hl pins s σ H _ I h) fun v s1 ⟨y, H1, I1, r1, q1⟩ => ?_
  obtain ⟨x, e, q⟩ := q1
  subst e
  obtain ⟨t, rfl⟩ := r1
  have fp : ∀ b ∈ [s1.heap.objs.size], FpOk X pins H1 b := fun b hb => by
    have e : b = s1.heap.objs.size := by simpa using hb
    subst e
    exact I1.fpOk (Nat.le_refl _) (I1.hok.fresh (Nat.le_refl _))
  cases ha : x.cps.all (· < 128)
  · refine wpAny_pyIter_wide ha ?_
    exact ⟨s1.heap.objs.size, [s1.heap.objs.size], _, _, H1, rfl, I1.kept (t' := s1.toks) fun b o e => Heap.get?_push_of_some _ e, turn_wide x t _, ⟨_, Heap.get?_push_size _ rfl, rfl, rfl⟩, fp, q⟩
  · refine wpAny_pyIter_ascii ha ?_
    exact ⟨s1.heap.objs.size, [s1.heap.objs.size], _, _, H1, rfl, I1.kept (t' := s1.toks) fun b o e => Heap.get?_push_of_some _ e, turn_ascii x t _, ⟨_, Heap.get?_push_size _ rfl, rfl, rfl⟩, fp, q⟩
theorem comp_str {x : Str} {D : Addr} {σ : St} {sub : List Nat} {tt : TT} {te : TE} {Q : VK} {H : Hp} (Pv : Nat → List V → Hp → Prop) (h0 : Pv 0 [] (upd H D (.lst [])))
    (hs : ∀ i c ys H, x.cps[i]? = some c → Pv i ys H → tt (some (.str ⟨#[c]⟩) :: subσ sub σ) H fun b H4 => if b = true then te (some (.str ⟨#[c]⟩) :: subσ sub σ) H4 fun y H5 => H5 D = some (.lst ys) ∧ ys.length < sizeLine ∧ Pv (i + 1) (ys ++ [y]) (upd H5 D (.lst (ys ++ [y]))) else Pv (i + 1) ys H4)
    (hd : ∀ ys H, Pv x.cps.size ys H → Q (.ref D) H) :
    ∃ W : Nat → Nat → List V → Hp → Prop, (∃ m, W 0 m [] (upd H D (.lst []))) ∧ ∀ i m ys H2, W i m ys H2 →
      ((Its x).stop i H2 ∧ Q (.ref D) H2) ∨ ((Its x).go i H2 ∧ ∃ N : List V → Hp → Prop, (∀ ys' H', N ys' H' → ∃ m', m' < m ∧ W (i + 1) m' ys' H') ∧ ∀ v H3, (Its x).yld i H2 v H3 → tt (some v :: subσ sub σ) H3 fun b H4 => if b = true then
        te (some v :: subσ sub σ) H4 fun y H5 => H5 D = some (.lst ys) ∧ ys.length < sizeLine ∧ N (ys ++ [y]) (upd H5 D (.lst (ys ++ [y])))
        else N ys H4) := by
  refine ⟨fun i m ys H => m = x.cps.size - i ∧ i ≤ x.cps.size ∧ Pv i ys H, ⟨_, rfl, Nat.zero_le _, h0⟩, ?_⟩
  rintro i m ys H ⟨rfl, hi, p⟩
  by_cases hlt : i < x.cps.size
  · refine .inr ⟨hlt, Pv (i + 1), fun ys' H' p' => ⟨_, by omega, rfl, hlt, p'⟩, fun v H' y => ?_⟩
    obtain ⟨rfl, c, ec, rfl⟩ := y
    exact hs i c ys _ ec p
  · have e : i = x.cps.size := by omega
    subst e
    exact .inl ⟨Nat.le_refl _, hd ys H p⟩
end
end L2
namespace L2
open PySem PySem.Spec PyProof.Rows
section
variable {X : Cx}
theorem call_allB (hc : X.calm = true) : CallR X (.builtin "all") (fun xs H Q => ∃ (a : Addr) (bs : List Bool), xs = [.ref a] ∧ SqL X.K H a (bs.map V.bl) ∧ Q (.bl (bs.all id)) H) := by
  intro pins s σ H xs us Q I r h
  obtain ⟨a, bs, rfl, hS, q⟩ := h
  obtain ⟨u, rfl, ru⟩ := vals1 r
  cases (show u = Value.ref a from ru)
  obtain ⟨its, rv, p, hz⟩ := I.list hS
  have hlen := rv.length
  rw [List.length_map] at hlen
  have hne : a ≠ s.heap.objs.size := fun z => by
    obtain ⟨o, e, _⟩ := p.isList
    exact Nat.lt_irrefl _ (z ▸ Heap.lt_size e)
  obtain ⟨f0, f1, f2, f3, f4, f5⟩ := I.fpOk (Nat.le_refl _) (I.hok.fresh (Nat.le_refl _))
  refine call_all_walk (wpAny_pyIter_list p.isList ?_)
  have I1 := fun o => I.kept (h' := s.heap.push o) (t' := s.toks) fun b ob e => Heap.get?_push_of_some _ e
  refine ⟨s.heap.objs.size, _, _, _, _, _, fun i => bs.getD i false, rfl, Walks.list (A := X.A.in1) (I.ok.hd hc) _ a hne its.toArray, ⟨⟨_, Heap.get?_push_size _ rfl, rfl, rfl⟩, p.isList.at fun o e => Heap.get?_push_of_some _ e⟩, ?_, fun h' tk hk => ?_⟩
  · intro i v s' Q' E' hv hQ
    have hv : its[i]? = some v := by simpa using hv
    have hi : i < bs.length := by rw [hlen]; exact (List.getElem?_eq_some_iff.mp hv).1
    obtain ⟨u', hu, ru'⟩ := rv.get (i := i) (x := V.bl bs[i]) (by rw [List.getElem?_map, List.getElem?_eq_getElem hi]; rfl)
    rw [hv] at hu
    cases hu
    cases (show v = Value.bool bs[i] from ru')
    have e : bs.getD i false = bs[i] := by rw [List.getD_eq_getElem?_getD, List.getElem?_eq_getElem hi]; rfl
    have hQ : Q' (bs.getD i false) s' := hQ
    rw [e] at hQ
    exact wpAny_truthy_bool hQ
  · refine ⟨.bl _, H, (I1 _).turned (t' := tk) (fun b o hb e => hk b o (by simpa using hb) e) f0 f1 f3 f4 f5, rfl, ?_⟩
    have e : (List.range its.toArray.size).all (fun i => bs.getD i false) = bs.all id := by
      rw [List.size_toArray, ← hlen]
      rw [Bool.eq_iff_iff, List.all_eq_true, List.all_eq_true]
      constructor
      · intro h b hb
        obtain ⟨i, hi, rfl⟩ := List.getElem_of_mem hb
        have := h i (List.mem_range.mpr hi)
        rw [List.getD_eq_getElem?_getD, List.getElem?_eq_getElem hi] at this
        exact this
      · intro h i hi
        have hi := List.mem_range.mp hi
        rw [List.getD_eq_getElem?_getD, List.getElem?_eq_getElem hi]
        exact h _ (List.getElem_mem hi)
    rw [e]
    exact q
theorem lookup_at {α : Type} : ∀ {l : List (Str × α)} {z : Str} {k : α}, l.lookup z = some k → ∃ p ∈ l, z = p.1 ∧ p.2 = k
  | [], _, _, e => by cases e
  | (n, k') :: r, z, k, e => by
    rw [List.lookup_cons] at e
    split at e
    · rename_i h
      cases e
      exact ⟨(n, k'), List.mem_cons_self, eq_of_beq h, rfl⟩
    · obtain ⟨p, hp, q⟩ := lookup_at e
      exact ⟨p, List.mem_cons_of_mem _ hp, q⟩
theorem pe_comp1 {elt iter : Expr} {x y : Str} {c : Addr} {i : Nat} {px pos : Pos} {ifs : List Expr} {scope : Scope} {wi : TI} {tt : TT} {te : TE}
    (hc : X.calm = true) (hi : PI X (.Name x px) iter wi) (hclos : closureFor scope X.env = pure [(y, c)]) (hkind : scope.kind = .function)
    (hall : ∀ p ∈ scope.names, p.2 = .local ∨ (p.1 = y ∧ p.2 = .free)) (hnames : ∀ p ∈ scope.names, p.2 = .local → scope.names.lookup p.1 = some .local) (hx : scope.names.lookup x = some .local)
    (hxy : x ≠ y) (hN : X.N[i]? = some y) (hv : Vis X.env.scope y) (hk : X.env.kindOf y ≠ some .local)
    (hvis : (compEnvC scope [(y, c)] 0 X.env).kindOf y = some .cell ∨ (compEnvC scope [(y, c)] 0 X.env).kindOf y = some .free) (hcy : X.env.cells.lookup y = some c)
    (ht : ∀ C fp s H, PTs (compX X scope [(y, c)] [x, y] C fp s H) ifs tt) (he : ∀ C fp s H, PE (compX X scope [(y, c)] [x, y] C fp s H) elt te)
    (hs : ∀ x, foldedSetIterable iter X.env x = pure x := by intro _; rfl) : PE X (.ListComp elt [⟨.Name x px, iter, ifs, 0⟩] scope pos) (tComp wi [i] tt te) := by
  have one : ∀ {z c'}, [(y, c)].lookup z = some c' → z = y ∧ c' = c := fun {z c'} e => by
    obtain ⟨p, hp, e1, e2⟩ := lookup_at e
    cases List.mem_singleton.mp hp
    exact ⟨e1, e2.symm⟩
  have self : [(y, c)].lookup y = some c := by rw [List.lookup_cons]; simp
  refine pe_of ?_
  refine pec_comp (cl := [(y, c)]) (fv := [y]) hc hi hclos (fun p hp z => ?_) hkind hnames hx ?_ rfl (fun j k z e1 e2 => ?_) (fun z hz => ?_) (fun z c' e => ?_) (fun z hz => ?_) (fun z hz => ?_) ht he hs
  · rcases hall p hp with q | ⟨_, q⟩ <;> rw [q] at z <;> cases z
  · exact List.nodup_cons.mpr ⟨fun h => hxy (List.mem_singleton.mp h), List.nodup_cons.mpr ⟨(fun h => nomatch h), List.nodup_nil⟩⟩
  · cases j with
    | zero => cases e1; cases e2; exact ⟨hN, hv, hk⟩
    | succ j => cases e1
  · cases List.mem_singleton.mp hz
    exact hvis
  · obtain ⟨rfl, rfl⟩ := one e
    exact hcy
  · cases List.mem_singleton.mp hz
    rw [self, hcy]
  · have far : ∀ k, (k = .cell ∨ k = .free) → (compEnvC scope [(y, c)] 0 X.env).kindOf z = some k → ∃ c', [(y, c)].lookup z = some c' := fun k hkk e => by
      obtain ⟨p, hp, e1, e2⟩ := lookup_at (show (scope.names.map _).lookup z = some k from e)
      obtain ⟨⟨n, kk⟩, hq, rfl⟩ := List.mem_map.mp hp
      rcases hall _ hq with q | ⟨q, _⟩
      · have q : kk = .local := q
        subst q
        have e2 : NameKind.local = k := e2
        rcases hkk with r | r <;> rw [r] at e2 <;> cases e2
      · have q : n = y := q
        subst q
        refine ⟨c, ?_⟩
        have : z = n := by
          rw [e1]
          dsimp only
          split <;> rfl
        rw [this]
        exact self
    rcases hz with e | e
    · exact far _ (.inl rfl) e
    · exact far _ (.inr rfl) e
end
end L2
namespace L2
open PySem PySem.Spec PyProof.Rows
end L2
namespace L2
open PySem PySem.Spec PyProof.Rows
end L2
namespace Strip
section
variable {M : Type} [DecidableEq M]
end
end Strip
namespace L2
open PySem PySem.Spec PyProof.Rows
abbrev BoxV := Str × Int × Int × V × V
def tupB (b : BoxV) : List V := [.str b.1, .int b.2.1, .int b.2.2.1, b.2.2.2.1, b.2.2.2.2]
end L2
namespace Strip
open L2 PySem
end Strip
namespace L2
open PySem PySem.Spec PyProof.Rows
inductive Caps (X : Cx) (scope : Scope) (cl0 : List (Str × Addr)) : List (Str × Addr) → List Nat → Prop
  | nil : Caps X scope cl0 [] []
  | cons {y : Str} {c : Addr} {i : Nat} {cl : List (Str × Addr)} {sub : List Nat} (hN : X.N[i]? = some y) (hv : Vis X.env.scope y) (hk : X.env.kindOf y ≠ some .local)
      (hvis : (compEnvC scope cl0 0 X.env).kindOf y = some .cell ∨ (compEnvC scope cl0 0 X.env).kindOf y = some .free) (hc : X.env.cells.lookup y = some c) (t : Caps X scope cl0 cl sub) : Caps X scope cl0 ((y, c) :: cl) (i :: sub)
section
variable {X : Cx} {scope : Scope} {cl0 : List (Str × Addr)}
theorem Caps.len : ∀ {cl : List (Str × Addr)} {sub : List Nat}, Caps X scope cl0 cl sub → sub.length = (cl.map (·.1)).length
  | _, _, .nil => rfl
  | _, _, .cons _ _ _ _ _ t => congrArg (· + 1) t.len
theorem Caps.at : ∀ {cl : List (Str × Addr)} {sub : List Nat}, Caps X scope cl0 cl sub → ∀ (j i : Nat) (y : Str), sub[j]? = some i → (cl.map (·.1))[j]? = some y → X.N[i]? = some y ∧ Vis X.env.scope y ∧ X.env.kindOf y ≠ some .local
  | _, _, .nil, _, _, _, e, _ => by simp at e
  | _, _, .cons hN hv hk _ _ t, j, i, y, e1, e2 => by
    cases j with
    | zero =>
      simp at e1 e2
      subst e1 e2
      exact ⟨hN, hv, hk⟩
    | succ j => exact t.at j i y (by simpa using e1) (by simpa using e2)
theorem Caps.vis : ∀ {cl : List (Str × Addr)} {sub : List Nat}, Caps X scope cl0 cl sub → ∀ y ∈ cl.map (·.1), (compEnvC scope cl0 0 X.env).kindOf y = some .cell ∨ (compEnvC scope cl0 0 X.env).kindOf y = some .free
  | _, _, .nil, _, h => by simp at h
  | _, _, .cons _ _ _ hvis _ t, y, h => by
    rcases List.mem_cons.mp h with e | h
    · rw [e]; exact hvis
    · exact t.vis y h
theorem Caps.cell : ∀ {cl : List (Str × Addr)} {sub : List Nat}, Caps X scope cl0 cl sub → ∀ y c, cl.lookup y = some c → X.env.cells.lookup y = some c
  | _, _, .nil, _, _, h => by cases h
  | _, _, .cons (y := z) (c := d) _ _ _ _ hc t, y, c, h => by
    rw [List.lookup_cons] at h
    split at h
    · rename_i e
      cases h
      rw [eq_of_beq e]
      exact hc
    · exact t.cell y c h
theorem lookup_has {α : Type} : ∀ {l : List (Str × α)} {y : Str}, y ∈ l.map (·.1) → ∃ c, l.lookup y = some c
  | [], _, h => by simp at h
  | (n, k) :: r, y, h => by
    rw [List.lookup_cons]
    split
    · exact ⟨k, rfl⟩
    · rename_i e
      rcases List.mem_cons.mp h with z | z
      · rw [z] at e
        simp at e
      · exact lookup_has z
def CapN (ys : List Str) (p : Str × NameKind) : Prop := p.2 = .local ∨ p.2 = .globalImplicit ∨ (p.1 ∈ ys ∧ p.2 = .free)
instance (ys : List Str) (p : Str × NameKind) : Decidable (CapN ys p) := by unfold CapN; exact inferInstance
theorem pec_compN {elt iter : Expr} {x : Str} {cl : List (Str × Addr)} {sub : List Nat} {px pos : Pos} {ifs : List Expr} {wi : TI} {tt : TT} {te : TE}
    (hc : X.calm = true) (hi : PI X (.Name x px) iter wi) (hclos : closureFor scope X.env = pure cl) (hkind : scope.kind = .function)
    (hall : ∀ p ∈ scope.names, CapN (cl.map (·.1)) p) (hnames : ∀ p ∈ scope.names, p.2 = .local → scope.names.lookup p.1 = some .local) (hx : scope.names.lookup x = some .local)
    (hnd : (x :: cl.map (·.1)).Nodup) (caps : Caps X scope cl cl sub)
    (ht : ∀ C fp s H, PTs (compX X scope cl (x :: cl.map (·.1)) C fp s H) ifs tt) (he : ∀ C fp s H, PE (compX X scope cl (x :: cl.map (·.1)) C fp s H) elt te)
    (hs : ∀ x, foldedSetIterable iter X.env x = pure x := by intro _; rfl) : PEC X (.ListComp elt [⟨.Name x px, iter, ifs, 0⟩] scope pos) iter scope (tComp wi sub tt te) := by
  refine pec_comp (cl := cl) (fv := cl.map (·.1)) hc hi hclos (fun p hp z => ?_) hkind hnames hx hnd caps.len caps.at caps.vis caps.cell (fun y hy => ?_) (fun z hz => ?_) ht he hs
  · rcases hall p hp with q | q | ⟨_, q⟩ <;> rw [q] at z <;> cases z
  · obtain ⟨c, e⟩ := lookup_has hy
    rw [e, caps.cell y c e]
  · have far : ∀ k, (k = .cell ∨ k = .free) → (compEnvC scope cl 0 X.env).kindOf z = some k → ∃ c', cl.lookup z = some c' := fun k hkk e => by
      obtain ⟨p, hp, e1, e2⟩ := lookup_at (show (scope.names.map _).lookup z = some k from e)
      obtain ⟨⟨n, kk⟩, hq, rfl⟩ := List.mem_map.mp hp
      rcases hall _ hq with q | q | ⟨q, _⟩
      · have q : kk = .local := q
        subst q
        have e2 : NameKind.local = k := e2
        rcases hkk with r | r <;> rw [r] at e2 <;> cases e2
      · have q : kk = .globalImplicit := q
        subst q
        have e2 : NameKind.globalImplicit = k := e2
        rcases hkk with r | r <;> rw [r] at e2 <;> cases e2
      · have q : n ∈ cl.map (·.1) := q
        have : z = n := by
          rw [e1]
          dsimp only
          split <;> rfl
        rw [this]
        exact lookup_has q
    rcases hz with e | e
    · exact far _ (.inl rfl) e
    · exact far _ (.inr rfl) e
end
theorem comp_range {lo : Int} {n : Nat} {D : Addr} {σ : St} {sub : List Nat} {tt : TT} {te : TE} {Q : VK} {H : Hp} (Pv : Nat → List V → Hp → Prop) (h0 : Pv 0 [] (upd H D (.lst [])))
    (hs : ∀ i ys H2, i < n → Pv i ys H2 → tt (some (.int (lo + i)) :: subσ sub σ) H2 fun b H4 => if b = true then te (some (.int (lo + i)) :: subσ sub σ) H4 fun y H5 => H5 D = some (.lst ys) ∧ ys.length < sizeLine ∧ Pv (i + 1) (ys ++ [y]) (upd H5 D (.lst (ys ++ [y]))) else Pv (i + 1) ys H4)
    (hd : ∀ ys H2, Pv n ys H2 → Q (.ref D) H2) :
    ∃ W : Nat → Nat → List V → Hp → Prop, (∃ m, W 0 m [] (upd H D (.lst []))) ∧ ∀ i m ys H2, W i m ys H2 →
      ((Itr lo n).stop i H2 ∧ Q (.ref D) H2) ∨ ((Itr lo n).go i H2 ∧ ∃ N : List V → Hp → Prop, (∀ ys' H', N ys' H' → ∃ m', m' < m ∧ W (i + 1) m' ys' H') ∧ ∀ v H3, (Itr lo n).yld i H2 v H3 → tt (some v :: subσ sub σ) H3 fun b H4 => if b = true then
        te (some v :: subσ sub σ) H4 fun y H5 => H5 D = some (.lst ys) ∧ ys.length < sizeLine ∧ N (ys ++ [y]) (upd H5 D (.lst (ys ++ [y]))) else N ys H4) := by
  refine ⟨fun i m ys H2 => m = n - i ∧ i ≤ n ∧ Pv i ys H2, ⟨n, by simp, Nat.zero_le _, h0⟩, ?_⟩
  rintro i m ys H2 ⟨rfl, hi, p⟩
  by_cases hlt : i < n
  · refine .inr ⟨hlt, Pv (i + 1), fun ys' H' p' => ⟨n - (i + 1), by omega, rfl, hlt, p'⟩, fun v H3 y => ?_⟩
    obtain ⟨e, e2⟩ := y
    subst e e2
    exact hs i ys _ hlt p
  · have e : i = n := by omega
    subst e
    exact .inl ⟨Nat.le_refl _, hd ys H2 p⟩
end L2
namespace L2
open PySem PySem.Spec PyProof.Rows
theorem Inv.turnedL {X : Cx} {pins : List (Addr × Obj)} {σ : St} {H : Hp} {s : Shared} {h' : Heap} {t' : Nat} {ch : List Addr} (I : Inv X pins σ H s) (k : ∀ b o, b ∉ ch → s.heap.get? b = some o → h'.get? b = some o) (hf : ∀ b ∈ ch, FpOk X pins H b) : Inv X pins σ H { s with heap := h', toks := t' } := by
  have nit : ∀ b u, H b = some u → b ∉ ch := fun b u e z => by rw [(hf b z).1] at e; cases e
  refine I.step (g' := s.gens) (d' := s.drawn) (ch := ch) (fun b hb => ?_) (fun b o _ _ hc e _ => k b o hc e) (fun b o _ _ hc e _ => ⟨o.slots, k b o hc e⟩) (fun _ _ _ _ n => n)
    (fun b o hc e => ⟨o, k b o hc e⟩) (fun _ _ e => e) (fun _ _ _ e => e) (fun b ps e => ⟨#[], by rw [e]; simp⟩) (fun m hm => ?_) (fun b u e => ?_) I.bare
  · obtain ⟨f0, f1, f2, f3, f4, f5⟩ := hf b hb
    exact ⟨f3, f1, f4, f5⟩
  · obtain ⟨o, es, ep, ho, r⟩ := hm
    exact ⟨o, es, ep, k _ o (fun z => (hf _ z).2.1 rfl) ho, r⟩
  · refine (I.hok b u e).stay (fun c v hc q => k c v ?_ q) (fun _ q => q) fun _ _ q => q
    rcases hc with z | z
    · rw [z]; exact nit b u e
    · exact nit c _ z
def Ite (K : PySem.W.Frag) (a : Addr) : It :=
  ⟨fun i H => ∃ xs x, SqL K H a xs ∧ xs[i]? = some x, fun i H v H' => ∃ (t : Addr) (x : V), v = .ref t ∧ H t = none ∧ H' = upd H t (.tup [.int (i : Int), x]) ∧ ∀ xs, SqL K H a xs → xs[i]? = some x, fun i H => ∃ xs, SqL K H a xs ∧ xs.length ≤ i⟩
theorem turn_enum {P : Program} {w : World} {K : PySem.W.Frag} {elts : List Expr} {kk : Nat} {pos : Pos} (a e it : Addr) (hne : e ≠ it) : Turn P w K (.Tuple elts kk pos) (Ite K a) [e, it] e (fun i h => (∃ old, IsEnum h e it (i : Int) old) ∧ h.IsListIter it a i) where
  mem := by simp
  obj := fun i h st b hb => by
    obtain ⟨⟨old, he⟩, o, ho, c, d⟩ := st
    rcases List.mem_cons.mp hb with z | z
    · subst z
      exact ⟨_, he, fun v z => by
        have z' : Data.fields _ = Data.cell v := z
        cases z'⟩
    · rcases List.mem_cons.mp z with z | z
      · subst z
        exact ⟨o, ho, fun v z => by rw [d] at z; cases z⟩
      · cases z
  keep := fun i h h' st k => ⟨let ⟨old, he⟩ := st.1; ⟨old, k e (by simp) _ he⟩, st.2.at fun o q => k it (by simp) o q⟩
  item := by
    intro X hP hw hK hc i pins s σ H E I hf st hg
    subst hP hw hK
    obtain ⟨⟨old, he⟩, hit⟩ := st
    obtain ⟨xs, x, hq, hx⟩ := hg
    obtain ⟨its, rv, p, hz⟩ := I.list hq
    obtain ⟨u, hu, ru⟩ := rv.get hx
    refine wpAny_pyNext_enum_item he hit p.isList (x := u) (by simpa using hu) hne fun h1 heo hit1 ht1 hz1 hk1 => ?_
    refine ⟨_, rfl, wpAny_letOwnedTupleGo_enum heo fun h2 he2 hs2 => ?_⟩
    have hs2 : Heap.SameBut e h1 h2 := hs2
    have el : e < s.heap.objs.size := Heap.lt_size he
    have ht2 : h2.get? s.heap.objs.size = some { cls := .type "tuple", data := .seq #[.int i s.toks, u] } := (hs2.2 _ (Nat.ne_of_gt el)).trans ht1
    have nt : H s.heap.objs.size = none := I.hok.fresh (Nat.le_refl _)
    have I1 : Inv X pins σ (upd H s.heap.objs.size (.tup [.int (i : Int), x])) { s with heap := s.heap.push { cls := .type "tuple", data := .seq #[.int i s.toks, u] }, toks := s.toks + 1 } :=
      I.laid (a := s.heap.objs.size) (o := .tup [.int (i : Int), x]) (fun _ _ q => Heap.get?_push_of_some _ q) (Nat.le_refl _) ⟨by show 2 ≤ sizeLine; decide, [.int i s.toks, u], .cons ⟨_, rfl⟩ (.cons ru .nil), _, Heap.get?_push_size _ rfl, rfl, 0, rfl⟩
    have fp1 : ∀ b ∈ [e, it], FpOk X pins (upd H s.heap.objs.size (.tup [.int (i : Int), x])) b := fun b hb => by
      obtain ⟨f0, f1, f2, f3, f4, f5⟩ := hf b hb
      refine ⟨?_, f1, f2, f3, f4, f5⟩
      have hb2 : b < s.heap.objs.size := by
        rcases List.mem_cons.mp hb with z | z
        · rw [z]; exact el
        · rcases List.mem_cons.mp z with z | z
          · rw [z]
            obtain ⟨o, ho, _⟩ := hit
            exact Heap.lt_size ho
          · cases z
      rw [upd_ne (Nat.ne_of_lt hb2)]
      exact f0
    have I2 : Inv X pins σ (upd H s.heap.objs.size (.tup [.int (i : Int), x])) { s with heap := h2, toks := s.toks + 1 } := I1.turnedL (h' := h2) (t' := s.toks + 1) (fun b o hb ho => by
      have b1 : b ≠ e := fun z => hb (by rw [z]; simp)
      have b2 : b ≠ it := fun z => hb (by rw [z]; simp)
      by_cases bs : b = s.heap.objs.size
      · rw [bs] at ho ⊢
        have ho : (s.heap.push { cls := .type "tuple", data := .seq #[.int i s.toks, u] }).get? s.heap.objs.size = some o := ho
        rw [Heap.get?_push_size _ rfl] at ho
        cases ho
        exact ht2
      · have ho2 : s.heap.get? b = some o := (Heap.get?_push_ne _ b _ bs).symm.trans ho
        exact (hs2.2 b b1).trans (hk1 b o b1 b2 ho2)) fp1
    refine ⟨.ref s.heap.objs.size, _, I2, rfl, ⟨s.heap.objs.size, x, rfl, nt, rfl, fun ys hy => by rw [I.list_inj hy hq]; exact hx⟩, ⟨⟨u, ?_⟩, hit1.extBut hs2.extBut (Ne.symm hne)⟩, fun b hb => (fp1 b hb).1⟩
    have : ((i + 1 : Nat) : Int) = (i : Int) + 1 := by omega
    rw [this]
    exact he2
  done := by
    intro X hP hw hK hc i pins s σ H E I hf st hg
    subst hP hw hK
    obtain ⟨⟨old, he⟩, hit⟩ := st
    obtain ⟨xs, hq, hx⟩ := hg
    obtain ⟨its, rv, p, hz⟩ := I.list hq
    obtain ⟨f0, f1, f2, f3, f4, f5⟩ := hf it (by simp)
    have hl := rv.length
    exact wpAny_pyNext_enum_end (I.ok.hd hc) he hit p.isList (by simp; omega) fun h' eb => ⟨rfl, I.turned (t' := s.toks) (fun b o hb q => eb b o hb q) f0 f1 f3 f4 f5⟩
  self := fun _ _ _ _ _ st h => let ⟨old, he⟩ := st.1; wpAny_pyIter_enum he h
def iEnum (K : PySem.W.Frag) (ta : TA) : TI := fun σ H R => ta σ H fun vs H1 => ∃ a, vs = [.ref a] ∧ (∃ xs, SqL K H1 a xs) ∧ R (Ite K a) H1
theorem pi_enum {X : Cx} {elts : List Expr} {kk : Nat} {pt : Pos} {a : Expr} {ta : TA} {p pos : Pos} (hg : Gl X "enumerate") (hm : X.mg "enumerate" = none) (ha : PA X [a] ta) (hs : starEach [a] X.env = [(false, eval a X.env)] := by rfl) :
    PI X (.Tuple elts kk pt) (.Call (.Name "enumerate" p) [a] [] pos) (iEnum X.K ta) := by
  intro pins s σ H R I h
  refine Call_ (ld_blt I hg hm (PyProof.Rows.Boot.«enumerate») (PyProof.Rows.callWith_type1 (thn (ha pos pins s σ H _ I h) fun us s1 ⟨vs, H1, I1, r1, q1⟩ => ?_) hs rfl))
  obtain ⟨b, e, ⟨xs, hq⟩, q⟩ := q1
  subst e
  cases r1 with
  | cons r rr =>
    cases rr
    cases r
    obtain ⟨its, rv, pp, hz⟩ := I1.list hq
    refine call_enumerate_list pp.isList fun h' hE hI hsz hk => ?_
    refine wpAny_pyIter_enum hE ?_
    refine ⟨s1.heap.objs.size + 1, [s1.heap.objs.size + 1, s1.heap.objs.size], _, _, H1, rfl, I1.kept (t' := s1.toks) hk, turn_enum b _ _ (Nat.succ_ne_self _), ⟨⟨_, hE⟩, hI⟩, fun c hc => ?_, q⟩
    rcases List.mem_cons.mp hc with z | z
    · subst z
      exact I1.fpOk (Nat.le_succ _) (I1.hok.fresh (Nat.le_succ _))
    · rcases List.mem_cons.mp z with z | z
      · subst z
        exact I1.fpOk (Nat.le_refl _) (I1.hok.fresh (Nat.le_refl _))
      · cases z
theorem strs_of : ∀ {zs : List Str} {us : List Value}, Vals (zs.map V.str) us → StrsAre us zs
  | [], _, r => by cases r; exact .nil
  | z :: zs, _, r => by
    rw [List.map_cons] at r
    cases r with
    | cons a t =>
      obtain ⟨tk, rfl⟩ := a
      exact .cons z tk (strs_of t)
theorem mt_join {X : Cx} : MtR X "str.join" (fun x xs H Q => ∃ i l zs, x = .str i ∧ xs = [.ref l] ∧ H l = some (.lst (zs.map V.str)) ∧ (zs.map (·.length)).sum + zs.length * i.length ≤ 16777216 ∧ Q (.str (Txt.join i zs)) H) := by
  intro pins s σ H x xs v us Q I rx rv h
  obtain ⟨i, l, zs, rfl, rfl, hl, hz, q⟩ := h
  obtain ⟨t, rfl⟩ := rx
  obtain ⟨u, rfl, ru⟩ := Vals.one rv
  cases ru
  obtain ⟨_, its, n, r, _, e⟩ := I.lstM hl
  exact join_list (items := its.toArray) ⟨_, e, rfl, n, rfl⟩ (by simpa using strs_of r) hz fun t' k => ⟨.str _, H, I.tok _, ⟨_, rfl⟩, q⟩
end L2
namespace L2
open PySem PySem.Spec PyProof.Rows
def tComp2 (K : PySem.W.Frag) (wi : TI) (sub : List Nat) (tt : TT) (te : TE) : TE := fun σ H Q => wi σ H fun J H1 => ∀ D, H1 D = none → ∃ W : Nat → Nat → List V → Hp → Prop, (∃ m, W 0 m [] (upd H1 D (.lst []))) ∧ ∀ i m ys H2, W i m ys H2 →
  (J.stop i H2 ∧ Q (.ref D) H2) ∨ (J.go i H2 ∧ ∃ N : List V → Hp → Prop, (∀ ys' H', N ys' H' → ∃ m', m' < m ∧ W (i + 1) m' ys' H') ∧ ∀ v H3, J.yld i H2 v H3 → ∃ (t : Addr) (a b : V), v = .ref t ∧ SqT K H3 t [a, b] ∧ tt (some a :: some b :: subσ sub σ) H3 fun c H4 => if c = true then
    te (some a :: some b :: subσ sub σ) H4 fun y H5 => H5 D = some (.lst ys) ∧ ys.length < sizeLine ∧ N (ys ++ [y]) (upd H5 D (.lst (ys ++ [y])))
    else N ys H4)
section
variable {X : Cx}
theorem pec_comp2 {elt iter : Expr} {x x2 : Str} {px py pt pos : Pos} {kk : Nat} {ifs : List Expr} {scope : Scope} {cl : List (Str × Addr)} {sub : List Nat} {fv : List Str} {wi : TI} {tt : TT} {te : TE}
    (hc : X.calm = true) (hi : PI X (.Tuple [.Name x px, .Name x2 py] kk pt) iter wi) (hclos : closureFor scope X.env = pure cl)
    (hcell : ∀ y ∈ scope.names, y.2 ≠ .cell) (hkind : scope.kind = .function) (hnames : ∀ y ∈ scope.names, y.2 = .local → scope.names.lookup y.1 = some .local) (hx : scope.names.lookup x = some .local) (hx2 : scope.names.lookup x2 = some .local)
    (hnd : (x :: x2 :: fv).Nodup) (hl : sub.length = fv.length) (hsub : ∀ (j : Nat) (i : Nat) (y : Str), sub[j]? = some i → fv[j]? = some y → X.N[i]? = some y ∧ Vis X.env.scope y ∧ X.env.kindOf y ≠ some .local)
    (hvis : ∀ y ∈ fv, (compEnvC scope cl 0 X.env).kindOf y = some .cell ∨ (compEnvC scope cl 0 X.env).kindOf y = some .free)
    (hcl : ∀ y c, cl.lookup y = some c → X.env.cells.lookup y = some c) (hcl2 : ∀ y ∈ fv, cl.lookup y = X.env.cells.lookup y)
    (hhas : ∀ y, ((compEnvC scope cl 0 X.env).kindOf y = some .cell ∨ (compEnvC scope cl 0 X.env).kindOf y = some .free) → ∃ c, cl.lookup y = some c)
    (ht : ∀ C fp s H, PTs (compX X scope cl (x :: x2 :: fv) C fp s H) ifs tt) (he : ∀ C fp s H, PE (compX X scope cl (x :: x2 :: fv) C fp s H) elt te)
    (hs : ∀ x, foldedSetIterable iter X.env x = pure x := by intro _; rfl) : PEC X (.ListComp elt [⟨.Tuple [.Name x px, .Name x2 py] kk pt, iter, ifs, 0⟩] scope pos) iter scope (tComp2 X.K wi sub tt te) := by
  refine pec_compX (xn := [x, x2]) (g := gTup X.K 2 (gCons (gName 0) (gCons (gName 1) gNil))) hc hi hclos hcell hkind hnames hl hsub hvis hcl hcl2 hhas (fun C fp s H => pg_tup rfl (pgs_cons (pg_name (i := 0) hnd rfl (.inl (lookup_relabel_local hx)) (.inr (lookup_relabel_local hx))) (pgs_cons (pg_name (i := 1) hnd rfl (.inl (lookup_relabel_local hx2)) (.inr (lookup_relabel_local hx2))) pgs_nil))) ht he (fun σ Q J H1 h D nD => ?_) hs
  obtain ⟨W, w0, st⟩ := h D nD
  refine ⟨W, w0, fun i m ys H2 hw => (st i m ys H2 hw).imp id fun ⟨go, N, hN, h⟩ => ⟨go, N, hN, fun v H3 y τ hτ => ?_⟩⟩
  obtain ⟨tp, va, vb, ev, htp, h⟩ := h v H3 y
  match τ, hτ with
  | [t0, t1], _ => exact ⟨tp, [va, vb], ev, htp, rfl, va, [vb], rfl, vb, [], rfl, rfl, ⟨[some va, some vb], rfl, rfl⟩, h⟩
variable {scope : Scope} {cl0 : List (Str × Addr)}
theorem pec_compN2 {elt iter : Expr} {x x2 : Str} {cl : List (Str × Addr)} {sub : List Nat} {px py pt pos : Pos} {kk : Nat} {ifs : List Expr} {wi : TI} {tt : TT} {te : TE}
    (hc : X.calm = true) (hi : PI X (.Tuple [.Name x px, .Name x2 py] kk pt) iter wi) (hclos : closureFor scope X.env = pure cl) (hkind : scope.kind = .function)
    (hall : ∀ p ∈ scope.names, CapN (cl.map (·.1)) p) (hnames : ∀ p ∈ scope.names, p.2 = .local → scope.names.lookup p.1 = some .local) (hx : scope.names.lookup x = some .local) (hx2 : scope.names.lookup x2 = some .local)
    (hnd : (x :: x2 :: cl.map (·.1)).Nodup) (caps : Caps X scope cl cl sub)
    (ht : ∀ C fp s H, PTs (compX X scope cl (x :: x2 :: cl.map (·.1)) C fp s H) ifs tt) (he : ∀ C fp s H, PE (compX X scope cl (x :: x2 :: cl.map (·.1)) C fp s H) elt te)
    (hs : ∀ x, foldedSetIterable iter X.env x = pure x := by intro _; rfl) : PEC X (.ListComp elt [⟨.Tuple [.Name x px, .Name x2 py] kk pt, iter, ifs, 0⟩] scope pos) iter scope (tComp2 X.K wi sub tt te) := by
  refine pec_comp2 (cl := cl) (fv := cl.map (·.1)) hc hi hclos (fun p hp z => ?_) hkind hnames hx hx2 hnd caps.len caps.at caps.vis caps.cell (fun y hy => ?_) (fun z hz => ?_) ht he hs
  · rcases hall p hp with q | q | ⟨_, q⟩ <;> rw [q] at z <;> cases z
  · obtain ⟨c, e⟩ := lookup_has hy
    rw [e, caps.cell y c e]
  · have far : ∀ k, (k = .cell ∨ k = .free) → (compEnvC scope cl 0 X.env).kindOf z = some k → ∃ c', cl.lookup z = some c' := fun k hkk e => by
      obtain ⟨p, hp, e1, e2⟩ := lookup_at (show (scope.names.map _).lookup z = some k from e)
      obtain ⟨⟨n, kk⟩, hq, rfl⟩ := List.mem_map.mp hp
      rcases hall _ hq with q | q | ⟨q, _⟩
      · have q : kk = .local := q
        subst q
        have e2 : NameKind.local = k := e2
        rcases hkk with r | r <;> rw [r] at e2 <;> cases e2
      · have q : kk = .globalImplicit := q
        subst q
        have e2 : NameKind.globalImplicit = k := e2
        rcases hkk with r | r <;> rw [r] at e2 <;> cases e2
      · have q : n ∈ cl.map (·.1) := q
        have : z = n := by
          rw [e1]
          dsimp only
          split <;> rfl
        rw [this]
        exact lookup_has q
    rcases hz with e | e
    · exact far _ (.inl rfl) e
    · exact far _ (.inr rfl) e
end
theorem comp_enum {K : PySem.W.Frag} {a D : Addr} {xs : List V} {σ : St} {sub : List Nat} {tt : TT} {te : TE} {Q : VK} {H : Hp} (Pv : Nat → List V → Hp → Prop) (h0 : Pv 0 [] (upd H D (.lst []))) (hl : ∀ i ys H, i ≤ xs.length → Pv i ys H → SqL K H a xs)
    (hs : ∀ i x ys H2 t, xs[i]? = some x → Pv i ys H2 → H2 t = none → tt (some (.int (i : Int)) :: some x :: subσ sub σ) (upd H2 t (.tup [.int (i : Int), x])) fun b H4 => if b = true then te (some (.int (i : Int)) :: some x :: subσ sub σ) H4 fun y H5 => H5 D = some (.lst ys) ∧ ys.length < sizeLine ∧ Pv (i + 1) (ys ++ [y]) (upd H5 D (.lst (ys ++ [y]))) else Pv (i + 1) ys H4)
    (hd : ∀ ys H2, Pv xs.length ys H2 → Q (.ref D) H2) :
    ∃ W : Nat → Nat → List V → Hp → Prop, (∃ m, W 0 m [] (upd H D (.lst []))) ∧ ∀ i m ys H2, W i m ys H2 →
      ((Ite K a).stop i H2 ∧ Q (.ref D) H2) ∨ ((Ite K a).go i H2 ∧ ∃ N : List V → Hp → Prop, (∀ ys' H', N ys' H' → ∃ m', m' < m ∧ W (i + 1) m' ys' H') ∧ ∀ v H3, (Ite K a).yld i H2 v H3 → ∃ (t : Addr) (a b : V), v = .ref t ∧ SqT K H3 t [a, b] ∧ tt (some a :: some b :: subσ sub σ) H3 fun c H4 => if c = true then
        te (some a :: some b :: subσ sub σ) H4 fun y H5 => H5 D = some (.lst ys) ∧ ys.length < sizeLine ∧ N (ys ++ [y]) (upd H5 D (.lst (ys ++ [y]))) else N ys H4) := by
  refine ⟨fun i m ys H2 => m = xs.length - i ∧ i ≤ xs.length ∧ Pv i ys H2, ⟨xs.length, by simp, Nat.zero_le _, h0⟩, ?_⟩
  rintro i m ys H2 ⟨rfl, hi, p⟩
  have q := hl i ys H2 hi p
  by_cases hlt : i < xs.length
  · refine .inr ⟨⟨xs, xs[i], q, by simp [hlt]⟩, Pv (i + 1), fun ys' H' p' => ⟨xs.length - (i + 1), by omega, rfl, hlt, p'⟩, fun v H3 y => ?_⟩
    obtain ⟨t, x, e1, nt, e2, y⟩ := y
    subst e1 e2
    exact ⟨t, .int (i : Int), x, rfl, SqT.of upd_same, hs i x ys _ t (y xs q) p nt⟩
  · have e : i = xs.length := by omega
    subst e
    exact .inl ⟨⟨xs, q, Nat.le_refl _⟩, hd ys H2 p⟩
end L2
namespace L2
open PySem PySem.Spec PyProof.Rows PySem.Builtin PySem.Builtin.ObjectAttr
section
variable {prog : Program} {w : World} {A : Around} {E : Value → Shared → Prop} {s : Shared} {K : PySem.W.Frag} {x C U : Addr} {ox : Obj} {od : Option Obj} {cd : ClassData} {name : Str} {v : Value}
end
section
variable {prog : Program} {w : World} {A : Around} {E : Value → Shared → Prop} {h : Heap} {g : Array GenState} {d : Drawn} {t : Nat} {os : OsState}
variable {nm q : Str} {C N f : Addr} {bs bm bmB bmN : List Value} {hdct : Bool} {sn : List Str} {sub : List Value} {ab : Bool} {col : Option Bool} {dd : Option Addr} {k0 k1 k2 k3 k5 : Option Value} {B Bn newId nid initId inN : String}
end
end L2
namespace L2
open PySem PySem.Spec PyProof.Rows
section
variable {X : Cx} {pins : List (Addr × Obj)} {σ : St} {H : Hp} {s : Shared}
end
section
variable {X : Cx}
end
end L2
namespace L2
open PySem PySem.Spec PyProof.Rows
section
variable {M : Model} {A : Around} {E : Value → Shared → Prop} {s : Shared}
end
end L2
namespace L2
open PySem PySem.Spec PyProof.Rows
section
variable {M : Model} {A : Around} {E : Value → Shared → Prop} {env : Env}
end
section
variable {M : Model} {A : Around} {E : Value → Shared → Prop} {env : Env}
end
section
variable {P : Program} {w : World} {H : Hp} {h h' : Heap} {l : List Env} {a C : Addr} {D : Option Addr} {n : Bool}
end
section
variable {P : Program} {w : World} {K : PySem.W.Frag} {mg : Str → Option Value} {base : Heap} {N : List Str} {qual : Str} {scope : Scope} {f : Addr} {cd : Value} {A : Around} {outer : List Env} {s : Shared} {H : Hp} {E : XK}
end
end L2
namespace L2
open PySem PySem.Spec PyProof.Rows
section
variable {M : Model} {A : Around} {E : Value → Shared → Prop}
end
section
variable {X : Cx} {pins : List (Addr × Obj)} {σ : St} {H : Hp} {s : Shared} {E : Value → Shared → Prop} {a : Addr}
end
section
variable {X : Cx}
end
end L2
namespace Kn
open PySem
end Kn
namespace L2
open PySem PySem.Spec PyProof.Rows
end L2
namespace L2
open PySem PySem.Spec PyProof.Rows
theorem eraseIdx_map' {α β : Type} (f : α → β) : ∀ (xs : List α) (j : Nat), (xs.map f).eraseIdx j = (xs.eraseIdx j).map f
  | [], j => by simp
  | x :: xs, 0 => by simp
  | x :: xs, j + 1 => by simp [eraseIdx_map' f xs j]
section
variable {prog : Program} {w : World} {K : Type} [DecidableEq K] {knd : HeapKind prog w K} {A : Around} {E : Value → Shared → Prop} {s : Shared}
end
section
variable {X : Cx} {pins : List (Addr × Obj)} {σ : St} {H : Hp} {s : Shared} {a b : Addr} {kvs : List (List Key × V)} {k : List Key} {A : Around} {E : Value → Shared → Prop}
end
section
variable {X : Cx} {o e f : Expr} {apos cpos : Pos} {td ty tx : TE}
end
end L2
namespace PySem.SeqAt
open AutoSeq1 (wpAny_loadPart')
open MeetsSeq MeetsSeq2 MeetsSeq3 SeqRoads2
end PySem.SeqAt
namespace L2
open PySem PySem.Spec PyProof.Rows
abbrev RwB := Str × Int × Int
def plainV : V → Bool
  | .byt _ => false
  | .flt _ => false
  | _ => true
theorem eqAt_same {A : Around} {s : Shared} {x : V} {u v : Value} (hp : plainV x = true) (r1 : RelV x u) (r2 : RelV x v) : SeqAt.EqAt A s u v true := by
  cases x with
  | int i => obtain ⟨t, rfl⟩ := r1; obtain ⟨t', rfl⟩ := r2; have := SeqAt.EqAt.int_int (A := A) (s := s) i t i t'; rwa [beq_self_eq_true] at this
  | bl b => cases r1; cases r2; exact SeqAt.EqAt.same _
  | str x => obtain ⟨t, rfl⟩ := r1; obtain ⟨t', rfl⟩ := r2; have := SeqAt.EqAt.str_str (A := A) (s := s) x t x t'; rwa [beq_self_eq_true] at this
  | non => cases r1; cases r2; exact SeqAt.EqAt.same _
  | ref p => cases r1; cases r2; exact SeqAt.EqAt.same _
  | ty p => cases r1; cases r2; exact SeqAt.EqAt.same _
  | byt _ => cases hp
  | flt _ => cases hp
theorem vals_same {A : Around} {s : Shared} {xs : List V} (hp : xs.all plainV = true) {us vs : List Value} (r1 : Vals xs us) (r2 : Vals xs vs) : ∀ (j : Nat) (h1 : j < us.toArray.size) (h2 : j < vs.toArray.size), SeqAt.EqAt A s us.toArray[j] vs.toArray[j] true := fun j h1 h2 => by
  have hx : j < xs.length := by rw [Paired.length r1]; simpa using h1
  obtain ⟨u, e1, q1⟩ := r1.get (List.getElem?_eq_getElem hx)
  obtain ⟨v, e2, q2⟩ := r2.get (List.getElem?_eq_getElem hx)
  have a1 : us.toArray[j] = u := by
    have : us[j]? = some us[j] := List.getElem?_eq_getElem (by simpa using h1)
    rw [e1] at this
    simpa using (Option.some.inj this).symm
  have a2 : vs.toArray[j] = v := by
    have : vs[j]? = some vs[j] := List.getElem?_eq_getElem (by simpa using h2)
    rw [e2] at this
    simpa using (Option.some.inj this).symm
  rw [a1, a2]
  exact eqAt_same (List.all_eq_true.mp hp _ (List.getElem_mem hx)) q1 q2
theorem all_range_true (n : Nat) : ((List.range n).all fun _ => true) = true := List.all_eq_true.mpr fun _ _ => rfl
section
variable {X : Cx}
end
end L2
namespace L2
open PySem PySem.Spec PyProof.Rows
end L2
namespace L2
open PySem PySem.Spec PyProof.Rows
def inS (zs : List Str) (i : Nat) : Str → Bool := fun k => decide (k ∈ zs.take i)
def cntS (zs : List Str) : Nat → Nat
  | 0 => 0
  | i + 1 => match zs[i]? with
    | some z => if inS zs i z = true then cntS zs i else cntS zs i + 1
    | none => cntS zs i
theorem cnt_le (zs : List Str) : ∀ i, cntS zs i ≤ i
  | 0 => Nat.le_refl _
  | i + 1 => by
    have := cnt_le zs i
    unfold cntS
    split
    · split <;> omega
    · omega
theorem in_new {zs : List Str} (nd : zs.Nodup) {i : Nat} {z : Str} (ez : zs[i]? = some z) : inS zs i z = false := by
  refine decide_eq_false fun q => ?_
  obtain ⟨j, hj, e⟩ := List.getElem_of_mem q
  rw [List.length_take] at hj
  rw [List.getElem_take] at e
  have hi := (List.getElem?_eq_some_iff.mp ez)
  exact (List.pairwise_iff_getElem.mp nd j i (by omega) hi.1 (by omega)) (e.trans hi.2.symm)
theorem cnt_nodup {zs : List Str} (nd : zs.Nodup) : ∀ i, i ≤ zs.length → cntS zs i = i
  | 0, _ => rfl
  | i + 1, h => by
    have ez : zs[i]? = some (zs[i]'(by omega)) := List.getElem?_eq_getElem (by omega)
    unfold cntS
    rw [ez]
    simp only
    rw [in_new nd ez, cnt_nodup nd i (by omega)]
    rfl
abbrev SetS (P : Program) (w : World) (a : Addr) (zs : List Str) (i : Nat) (h : Heap) : Prop := h.SetOf (strKind P w) a (inS zs i) (cntS zs i)
theorem SetS.at {P : Program} {w : World} {a : Addr} {zs : List Str} {i : Nat} {h h' : Heap} (x : SetS P w a zs i h) (e : ∀ o, h.get? a = some o → h'.get? a = some o) : SetS P w a zs i h' := by
  obtain ⟨o, es, ep, t, ho, r⟩ := x
  exact ⟨o, es, ep, t, e o ho, r⟩
section
variable {prog : Program} {w : World} {A : Around} {R : Result → Shared → Prop} {it : Addr} {fp wr : List Addr} {G : Array GenState → Array GenState → Prop} {P : Nat → Value → Prop} {St : Nat → Shared → Prop}
theorem set_loop {zs : List Str} (W : WalksS prog w A.in1 it fp wr G zs.length P St) (S : Addr) (hS : S ∉ fp) (val : ∀ i v, P i v → ∃ z t, zs[i]? = some z ∧ v = .str z t) (hb : zs.length + 1 < scanBound) :
    ∀ (k i : Nat) (s : Shared), zs.length - i = k → i ≤ zs.length → St i s → SetS prog w S zs i s.heap →
      (∀ s', Moved (S :: wr) G s s' → SetS prog w S zs zs.length s'.heap → R (.ok (.ret .none)) s') →
      codeAny (model prog w) A (.builtin "set.update.loop" ⟨[.ref S, .ref it], []⟩) R s := by
  have nw : S ∉ wr := fun z => hS (W.sub _ z)
  have up : ∀ b ∈ wr, b ∈ S :: wr := fun b z => List.mem_cons_of_mem _ z
  intro k
  induction k with
  | zero =>
    intro i s ek le st x fin
    have e : i = zs.length := by omega
    subst e
    refine codeAny_builtin F.entry_set_update_loop ?_
    rw [Around.under_plainId F.plain_set_update_loop _]
    show wpAny _ A.in1 (pyNext (.ref it) >>= _) _ _ s
    refine wpAny_bind (W.done s _ _ st fun s' mv => ?_)
    exact wpAny_pure (fin s' (mv.mono up) (x.at fun o e => mv.heap S o nw e))
  | succ k ih =>
    intro i s ek le st x fin
    refine codeAny_builtin F.entry_set_update_loop ?_
    rw [Around.under_plainId F.plain_set_update_loop _]
    show wpAny _ A.in1 (pyNext (.ref it) >>= _) _ _ s
    refine wpAny_bind (W.item i s _ _ (by omega) st fun v s' pv st' mv => ?_)
    obtain ⟨z, t, ez, rfl⟩ := val i v pv
    have x' := x.at fun o e => mv.heap S o nw e
    show wpAny _ A.in1 (holding [Value.str z t] (setAdd S (.str z t)) >>= _) _ _ s'
    refine wpAny_bind (wpAny_holding ?_)
    unfold setAdd
    refine wpAny_holding ?_
    refine wpAny_bind ((strKind prog w).pyHash (k := z) (strKind_is _ _ _ _) ?_)
    have hc := cnt_le zs i
    refine wpAny_setAddHashed_of (knd := strKind prog w) (s := { s' with toks := s'.toks + 1 }) (strKind_is _ _ _ _) rfl x' (by omega) fun h' sb x2 => ?_
    have x0 : (match zs[i]? with | some z => if inS zs i z = true then cntS zs i else cntS zs i + 1 | none => cntS zs i) = cntS zs (i + 1) := rfl
    rw [ez] at x0
    have x3 : SetS prog w S zs (i + 1) h' := SetOf_congr x2 (fun k' => by
      unfold inS
      rw [List.take_add_one, ez, Bool.eq_iff_iff]
      simp) x0
    refine wpAny_pure ⟨plainId_quiet F.plain_set_update_loop _, ih (i + 1) _ (by omega) (by omega) (W.frame _ s' _ _ st' (Nat.le_succ _) fun b hb o e => ?_) x3 fun s'' mv'' x4 => ?_⟩
    · rw [sb.2 b (fun h : b = S => hS (by rw [← h]; exact hb))]; exact e
    · refine fin s'' (Moved.trans W.gtrans ((mv.mono up).then_heap (Nat.le_succ _) fun b o hb e => ?_) mv'') x4
      rw [sb.2 b (fun h : b = S => hb (by rw [h]; exact List.mem_cons_self))]; exact e
end
section
variable {prog : Program} {w : World} {A : Around} {E : Value → Shared → Prop} {s : Shared}
abbrev newSet (b : Bool) : Obj := { cls := .type "set", dict := none, data := .set #[] 0 (.fresh 0 0 b) }
theorem strs_at : ∀ {vs : List Value} {zs : List Str}, StrsAre vs zs → ∀ (i : Nat) (v : Value), vs[i]? = some v → ∃ z t, zs[i]? = some z ∧ v = .str z t
  | _, _, .nil, i, v, h => by simp at h
  | _, _, .cons z t r, 0, v, h => ⟨z, t, rfl, by simpa using h.symm⟩
  | _, _, .cons z t r, i + 1, v, h => by
    obtain ⟨z', t', e1, e2⟩ := strs_at r i v (by simpa using h)
    exact ⟨z', t', by simpa using e1, e2⟩
theorem call_set_strs {l : Addr} {its : Array Value} {zs : List Str} {Q : Value → Shared → Prop} (hh : A.handled = none) (hl : s.heap.IsList l its) (hs : StrsAre its.toList zs) (hb : zs.length + 1 < scanBound)
    (q : ∀ (h' : Heap) (tk : Nat), SetS prog w s.heap.objs.size zs zs.length h' → (∀ a o, a < s.heap.objs.size → s.heap.get? a = some o → h'.get? a = some o) → Q (.ref s.heap.objs.size) { s with heap := h', toks := tk }) :
    wpAny (model prog w) A (call (.type "set") [.ref l]) Q E s := by
  have ft := PySem.F.called_set
  obtain ⟨c0, tl0, m0⟩ := ft.mro
  have m1 := ft.made
  have m2 := ft.sub
  have hlen : its.size = zs.length := by
    have := hs.length
    rw [Array.length_toList] at this
    exact this
  refine wpAny_call (codeAny_of_tree ?_)
  show wpAny _ _ (callAny (.type "set") _) _ _ _
  refine wpAny_pure ⟨Code.quiet_builtin _ (by decide +kernel), codeAny_builtin PySem.F.entry_type_call ?_⟩
  rw [Around.under_plain (weight_type_call_type "set" [.ref l] []) rfl]
  have m3 := ft.notType
  have m4 := ft.canCreate
  have m5 := PySem.F.typeCall_set_1 (.ref l)
  repeat (any_goals (first | assumption | wp_step))
  refine codeAny_mono (PySem.code_set_new_1 (.ref l) (E := E) (Q₁ := fun o s1 => ∃ b : Bool, o = .ref s.heap.objs.size ∧ s1 = { s with heap := s.heap.push (newSet b) }) fun b => ⟨b, rfl, rfl⟩) fun r s1 hr => ?_
  cases r with
  | error e => exact hr
  | ok fl =>
    cases fl with
    | ret o =>
      obtain ⟨b, rfl, rfl⟩ := hr
      have hS : (s.heap.push (newSet b)).get? s.heap.objs.size = some (newSet b) := Heap.get?_push_size _ rfl
      have hT : Shared.TypeIs { s with heap := s.heap.push (newSet b) } (.ref s.heap.objs.size) "set" := ⟨_, hS, rfl⟩
      have n1 := ft.init.lookup
      have n2 := ft.init.bind (.ref s.heap.objs.size)
      repeat (any_goals (first | assumption | wp_step))
      refine codeAny_mono (codeAny_call_builtin (R := wants (fun r s2 => r = .none ∧ ∃ h' tk, s2 = { s with heap := h', toks := tk } ∧ SetS prog w s.heap.objs.size zs zs.length h' ∧ ∀ a o, a < s.heap.objs.size → s.heap.get? a = some o → h'.get? a = some o) E) ft.init.plain PySem.F.entry_set_init (PySem.check_set_init_1 hT ?_)) fun r2 s2 hr2 => ?_
      · obtain ⟨ol, hol, hcl, nl, hdl⟩ := hl
        obtain ⟨oc, od, oa, os⟩ := ol
        simp only at hcl hdl
        subst hcl; subst hdl
        have ho1 : (s.heap.push (newSet b)).get? l = some { cls := .type "list", dict := od, data := .seq its nl, slots := os } := Heap.get?_push_of_some _ hol
        have k1 := PySem.F.sub_list_set
        have k2 := PySem.F.sub_list_frozenset
        have k3 : (Value.type "list" == Value.type "dict") = false := by decide
        have l1 : (s.heap.push (newSet b)).IsList l its := ⟨_, ho1, rfl, nl, rfl⟩
        have lS : l < s.heap.objs.size := Heap.lt_size hol
        unfold Builtin.«set.__init__» noKeywords Builtin.Frozenset.updateFrom
        generalize eI : pyIter = PI
        wp_walk
        subst eI
        refine wpAny_pyIter_list l1 ?_
        refine wpAny_bind (wpAny_runValue ?_)
        have zp : (s.heap.push (newSet b)).objs.size = s.heap.objs.size + 1 := Heap.size_push _ _
        have d1 : l ≠ (s.heap.push (newSet b)).objs.size := by rw [zp]; exact Nat.ne_of_lt (Nat.lt_succ_of_lt lS)
        have d2 : s.heap.objs.size ∉ [(s.heap.push (newSet b)).objs.size, l] := by
          rw [zp]
          intro z
          rcases List.mem_cons.mp z with z | z
          · exact Nat.ne_of_lt (Nat.lt_succ_self _) z
          · exact Nat.ne_of_gt lS (List.mem_singleton.mp z)
        have W := (Walks.list (prog := prog) (w := w) (A := A.in1.in1.in1) (by simp [hh]) _ l d1 its).toS
        rw [hlen] at W
        refine set_loop W s.heap.objs.size d2 (fun i v hv => strs_at hs i v (by rw [Array.getElem?_toList]; exact hv)) hb (zs.length - 0) 0 _ (by omega) (Nat.zero_le _) ⟨⟨_, Heap.get?_push_size _ rfl, rfl, rfl⟩, l1.push _⟩ ?s0 ?fin
        case s0 =>
          exact SetOf_congr ((setObjOf_fresh (knd := strKind prog w) b).setOf (Heap.get?_push_of_some _ hS) (by unfold scanBound; omega)) (fun _ => by unfold inS; simp) rfl
        case fin =>
          intro s' mv x
          obtain ⟨h', g', d', tk', os'⟩ := s'
          obtain rfl : g' = s.gens := mv.gens
          obtain rfl : d' = s.drawn := mv.drawn
          obtain rfl : os' = s.os := mv.os
          refine wpAny_pure ?_
          show wpAny _ _ (ret Value.none) _ _ _
          refine wpAny_pure ⟨rfl, h', tk', rfl, x, fun a o ha e => mv.heap a o (fun z => ?_) (Heap.get?_push_of_some _ (Heap.get?_push_of_some _ e))⟩
          rcases List.mem_cons.mp z with z | z
          · exact Nat.ne_of_lt ha z
          · rw [zp] at z
            exact Nat.ne_of_lt (Nat.lt_succ_of_lt ha) (List.mem_singleton.mp z)
      · cases r2 with
        | error e => exact hr2
        | ok f2 =>
          cases f2 with
          | ret r =>
            obtain ⟨rfl, h', tk, rfl, x, kp⟩ := hr2
            repeat (any_goals (first | assumption | wp_step))
            exact q _ _ x kp
          | _ => exact hr2.elim
    | _ => exact hr.elim
end
end L2
namespace L2
open PySem PySem.Spec PyProof.Rows
theorem call_setS {X : Cx} (hc : X.calm = true) : CallR X (.type "set") (fun xs H Q => ∃ (a : Addr) (zs : List Str), xs = [.ref a] ∧ SqL X.K H a (zs.map V.str) ∧ zs.length ≤ 1000 ∧ ∀ p, H p = none → Q (.ref p) (upd H p (.ext (SetS X.prog X.w p zs zs.length)))) := by
  intro pins s σ H xs us Q I r h
  obtain ⟨a, zs, rfl, hS, hz, q⟩ := h
  obtain ⟨u, rfl, ru⟩ := vals1 r
  cases (show u = Value.ref a from ru)
  obtain ⟨its, rv, p, _⟩ := I.list hS
  refine call_set_strs (I.ok.hd hc) p.isList (by simpa using strs_of rv) (by unfold scanBound; omega) fun h' tk x kp => ?_
  refine ⟨.ref s.heap.objs.size, _, I.laid (o := .ext (SetS X.prog X.w s.heap.objs.size zs zs.length)) (t' := tk) (h' := h') (fun b u e => kp b u (Heap.lt_size e) e) (Nat.le_refl _) (by
    obtain ⟨o, _, _, _, e, _⟩ := id x
    exact ⟨x, ⟨o, e⟩, fun h1 h2 e k => e.at k⟩), rfl, q _ (I.hok.fresh (Nat.le_refl _))⟩
theorem call_lenS {X : Cx} : CallR X (.builtin "len") (fun xs H Q => ∃ (a : Addr) (zs : List Str), xs = [.ref a] ∧ H a = some (.ext (SetS X.prog X.w a zs zs.length)) ∧ Q (.int (cntS zs zs.length)) H) := by
  intro pins s σ H xs us Q I r h
  obtain ⟨a, zs, rfl, hS, q⟩ := h
  obtain ⟨u, rfl, ru⟩ := vals1 r
  cases (show u = Value.ref a from ru)
  obtain ⟨o, es, ep, t, ho, hex, hd, _, _, hb, hf, hn⟩ := (show ObjOk X.prog X.w H s.heap a _ from I.hok a _ hS).1
  refine call_len_set ho hex hd hf (by unfold scanBound at hb; omega) ⟨.int (cntS zs zs.length), H, I.tok _, ⟨_, by rw [hn]⟩, q⟩
end L2
namespace PySem
open PySem PySem.Spec
section
variable {prog : Program} {w : World} {A : Around} {E : Value → Shared → Prop} {h : Heap} {g : Array GenState} {d : Drawn} {t : Nat} {os : OsState} {a : Addr} {o : Obj}
end
end PySem
namespace L2
open PySem PySem.Spec PyProof.Rows
section
variable {prog : Program} {w : World} {A : Around} {R : Result → Shared → Prop} {it : Addr} {fp wr : List Addr} {G : Array GenState → Array GenState → Prop} {P : Nat → Value → Prop} {St : Nat → Shared → Prop}
end
section
variable {prog : Program} {w : World} {A : Around} {E : Value → Shared → Prop} {s : Shared}
end
end L2
namespace L2
open PySem PySem.Spec PyProof.Rows
section
variable {P : Program} {w : World} {K : PySem.W.Frag} {mg : Str → Option Value} {base : Heap}
end
end L2
namespace L2
open PySem PySem.Spec PyProof.Rows
end L2
namespace L2
open PySem PySem.Spec PyProof.Rows
structure MC (P : Program) (w : World) (K : PySem.W.Frag) (mg : Str → Option Value) (base : Heap) (C : Addr) (m : Str) (k : Nat) (ps : List Str) (ds : List Value) (dvs : List V) (sp : Sp) (f : Addr) (fd : FuncData) : Prop where
  cl : Cls K C
  mt : Meth K C m f
  ok : FnOk P w K mg base CX0 k f fd ps sp
  bd : Binds K fd ps ds
  dv : Vals dvs ds
end L2
namespace L2
open PySem PySem.Spec PyProof.Rows
section
variable {D : Ends} {σ : St} {H : Hp} {Q : VK}
theorem rd_next (h : D.nx σ H) : tNext D σ H := h
theorem rd_ret {te : TE} (h : te σ H D.rt) : tRet te D σ H := h
theorem rd_expr {te : TE} (h : te σ H fun _ H1 => D.nx σ H1) : tDrop te D σ H := h
theorem rd_seq {t u : TS} (h : t { D with nx := u D } σ H) : tSeq t u D σ H := h
theorem rd_andV {ta tb : TE} (h : ta σ H fun x H1 => ∃ c, x = .bl c ∧ if c = true then tb σ H1 Q else Q (.bl false) H1) : tAndV ta tb σ H Q := h
theorem rd_cb {r : List V → Hp → VK → Prop} {t : TA} (h : t σ H fun vs H1 => r vs H1 Q) : tCB r t σ H Q := h
theorem rd_cons {ta : TE} {tr : TA} {R : List V → Hp → Prop} (h : ta σ H fun x H1 => tr σ H1 fun xs H2 => R (x :: xs) H2) : tCons ta tr σ H R := h
theorem rd_op {r : R2} {ta tb : TE} (h : ta σ H fun x H1 => tb σ H1 fun y H2 => r x y H2 Q) : tOp r ta tb σ H Q := h
theorem rd_bm {K : PySem.W.Frag} {T : String} {r : V → List V → Hp → VK → Prop} {to : TE} {t : TA} (h : to σ H fun x H1 => tyV K T x H1 ∧ t σ H1 fun xs H2 => r x xs H2 Q) : tBM K T r to t σ H Q := h
theorem rd_asg {te : TE} {g : TG} (h : te σ H fun x H1 => g x σ H1 D.nx) : tAsg te g D σ H := h
end
end L2
namespace L2
open PySem PySem.Spec PyProof.Rows
abbrev OB := Str × RwB
abbrev kk (k : Str) (n : Int) : List Key := [Sum.inr k, Sum.inl n]
def below : Nat → Int → Int → Int → List Int
  | 0, _, _, _ => []
  | j + 1, k, f, l => (if f + 1 < k then [k - ((2 ^ j : Nat) : Int)] else []) ++ (if k < l + 1 then [k + ((2 ^ j : Nat) : Int)] else [])
structure IA where
  p : Addr
  s : Addr
  w : Addr
end L2
namespace L2
open PySem PySem.Spec PyProof.Rows
theorem rd_if {c : TT} {t u : TS} {D : Ends} {σ : St} {H : Hp} (h : c σ H fun b H1 => if b = true then t D σ H1 else u D σ H1) : tIfS c t u D σ H := h
theorem rd_while {c : TT} {tb : TS} {D : Ends} {σ : St} {H : Hp} (W : Nat → St → Hp → Prop) {m : Nat} (h0 : W m σ H) (h : ∀ m σ H, W m σ H → c σ H fun b H1 => if b = true then ∃ N : St → Hp → Prop, (∀ σ' H', N σ' H' → ∃ m', m' < m ∧ W m' σ' H') ∧ tb { D with nx := N, ct := N, bk := D.nx } σ H1 else D.nx σ H1) : tWhile c tb D σ H :=
  ⟨W, ⟨m, h0⟩, h⟩
end L2
namespace L2
open PySem PySem.Spec PyProof.Rows
end L2
namespace L2
open PySem PySem.Spec PyProof.Rows
end L2
namespace L2
open PySem PySem.Spec PyProof.Rows
def mm (a : IA) (M : Addr → Prop) (b : Addr) : Prop := b = a.p ∨ M b
end L2
namespace L2
open PySem PySem.Spec PyProof.Rows
end L2
namespace L2
open PySem PySem.Spec PyProof.Rows
section
variable {X : Cx}
end
section
variable {X : Cx}
end
end L2
namespace L2
open PySem PySem.Spec PyProof.Rows
section
variable {prog : Program} {w : World} {A : Around} {E : Value → Shared → Prop}
end
end L2
namespace L2
open PySem PySem.Spec PyProof.Rows
theorem isLst {X : Cx} {pins : List (Addr × Obj)} {σ : St} {H : Hp} {s : Shared} {p : Addr} {xs : List V} (I : Inv X pins σ H s) (e : H p = some (.lst xs)) : ∃ its : List Value, Vals xs its ∧ s.heap.IsList p its.toArray := by
  obtain ⟨_, its, n, r, h1⟩ := (show ObjOk X.prog X.w H s.heap p (.lst xs) from I.hok p _ e)
  exact ⟨its, r, _, h1, rfl, n, rfl⟩
inductive rSameL (neg : Bool) (x : V) (y : V) (H : Hp) (Q : VK) : Prop
  | mk (a b xs) (h1 : x = .ref a) (h2 : y = .ref b) (h3 : H a = some (.lst xs)) (h4 : H b = some (.lst xs)) (h5 : xs.all plainV = true) (h6 : Q (.bl (!neg)) H) : rSameL neg x y H Q
section
variable {X : Cx}
theorem op_eqSameL (hu : X.A.units + 64 < cLine) : OpR X (compareOp .Eq) (rSameL false) := by
  intro pins s σ H x y v u Q I r1 r2 h
  obtain ⟨a, b, xs, rfl, rfl, ea, eb, hp, q⟩ := h
  cases r1; cases r2
  obtain ⟨us, v1, o1⟩ := isLst I ea
  obtain ⟨vs, v2, o2⟩ := isLst I eb
  refine SeqAt.eq_listAt (e := fun _ => true) o1 o2 (by rw [List.size_toArray, List.size_toArray, ← Paired.length v1, ← Paired.length v2]) (by omega) (vals_same hp v1 v2) ?_
  rw [all_range_true]
  exact ⟨.bl true, H, I, rfl, q⟩
theorem op_neSameL (hu : X.A.units + 64 < cLine) : OpR X (compareOp .NotEq) (rSameL true) := by
  intro pins s σ H x y v u Q I r1 r2 h
  obtain ⟨a, b, xs, rfl, rfl, ea, eb, hp, q⟩ := h
  cases r1; cases r2
  obtain ⟨us, v1, o1⟩ := isLst I ea
  obtain ⟨vs, v2, o2⟩ := isLst I eb
  refine SeqAt.RcNeAt.lists (e := fun _ => true) o1 o2 (by rw [List.size_toArray, List.size_toArray, ← Paired.length v1, ← Paired.length v2]) (by omega) (vals_same hp v1 v2) _ _ _ _ ?_
  rw [all_range_true]
  exact ⟨.bl false, H, I, rfl, q⟩
end
end L2
namespace L2
open PySem PySem.Spec PyProof.Rows
end L2
namespace L2
open PySem PySem.Spec PyProof.Rows
end L2
namespace L2
open PySem PySem.Spec PyProof.Rows
section
variable {prog : Program} {w : World} {A : Around} {s : Shared} {R : Result → Shared → Prop} {I : Addr} {fp wr : List Addr} {G : Array GenState → Array GenState → Prop} {n : Nat} {P : Nat → Value → Prop} {St : Nat → Shared → Prop}
end
section
variable {prog : Program} {w : World} {A : Around} {E : Value → Shared → Prop} {s : Shared}
end
end L2
namespace L2
open PySem PySem.Spec PyProof.Rows
def par (j : Nat) (n : Int) : Int := if (n - ((2 ^ j : Nat) : Int)) / ((2 ^ j : Nat) : Int) / 2 % 2 = 0 then n + ((2 ^ j : Nat) : Int) else n - ((2 ^ j : Nat) : Int)
end L2
namespace L2
open PySem PySem.Spec PyProof.Rows
def CDivW (i j : Int) : Prop := 0 < j ∧ j < 2 ^ 64
theorem op_fdivW {X : Cx} : OpR X (binaryOp .FloorDiv) (rI CDivW fun i j => .int (i / j)) := opI fun i j _ _ _ _ _ hc q => by
  have h1 : (0 : Int) < j := hc.1
  have h2 : j.natAbs < 2 ^ 64 := by have := hc.2; omega
  have h3 : j.natAbs.log2 < 64 := (Nat.log2_lt (by omega)).mpr h2
  exact floordiv_int (by omega) (by rw [Int.fdiv_eq_ediv_of_nonneg i (by omega)]; exact q) (.inl (PyProof.noPylong_of_log2 (by omega)))
end L2
namespace L2
open PySem PySem.Spec PyProof.Rows
section
variable {P : Program} {w : World} {K : PySem.W.Frag} {mg : Str → Option Value} {base : Heap}
end
end L2
namespace L2
open PySem PySem.Spec PyProof.Rows
section
variable {P : Program} {w : World} {K : PySem.W.Frag} {mg : Str → Option Value} {base : Heap} {N : List Str} {qual : Str} {scope : Scope} {f : Addr} {cd : Value} {A : Around} {outer : List Env} {s : Shared} {H : Hp} {E : XK}
end
end L2
namespace L2
open PySem PySem.Spec PyProof.Rows
end L2
namespace L2
open PySem PySem.Spec PyProof.Rows
section
variable {X : Cx} {pins : List (Addr × Obj)} {σ : St} {H : Hp} {s : Shared}
end
end L2
namespace L2
open PySem PySem.Spec PyProof.Rows
section
variable {X : Cx}
end
end L2
namespace L2
open PySem PySem.Spec PyProof.Rows
section
variable {X : Cx}
end
end L2
namespace L2
open PySem PySem.Spec PyProof.Rows
def starB : Expr → Bool
  | .Starred _ _ => true
  | _ => false
theorem star_cons {e : Expr} {es : List Expr} {env : Env} (h : starB e = false) : starEach (e :: es) env = (false, eval e env) :: starEach es env := by
  cases e <;> first | (cases h; done) | (unfold starEach; rfl) | rfl
theorem pa_kons {X : Cx} {e : Expr} {es : List Expr} {te : TE} {t : TA} (ha : PE X e te) (hr : PA X es t) (hs : starB e = false := by rfl) : PA X (e :: es) (tCons te t) := pa_cons ha hr (star_cons hs)
section
variable {σ : St} {H : Hp}
end
end L2
namespace L2
open PySem PySem.Spec PyProof.Rows
theorem len_cps (x : Str) : x.length = x.cps.toList.length := by simp [Str.length]
theorem app_cps (x y : Str) : (x ++ y).cps.toList = x.cps.toList ++ y.cps.toList := by
  show (x.cps ++ y.cps).toList = _
  rw [Array.toList_append]
theorem join_nil (zs : List Str) : (Str.join (Str.ofString "") zs).cps.toList = (zs.map fun z => z.cps.toList).flatten := by
  induction zs with
  | nil => rfl
  | cons z zs ih =>
    cases zs with
    | nil => simp [Str.join]
    | cons y ys =>
      show (z ++ Str.ofString "" ++ Str.join (Str.ofString "") (y :: ys)).cps.toList = _
      rw [app_cps, app_cps, ih, List.map_cons (l := y :: ys), List.flatten_cons, show (Str.ofString "").cps.toList = [] from rfl, List.append_nil]
theorem join0 (zs : List Str) : (Txt.join (Str.ofString "") zs).cps.toList = (zs.map fun z => z.cps.toList).flatten := by
  show (Builtin.Str.glued (Str.ofString "") zs).cps.toList = _
  rw [StrLaws.glued_eq_join]
  exact join_nil zs
theorem str_ext {x y : Str} (h : x.cps.toList = y.cps.toList) : x = y := by
  cases x; cases y
  congr 1
  exact Array.toList_inj.mp h
theorem flat_singles : ∀ ds : List Nat, ((ds.map fun d => (⟨#[d]⟩ : Str)).map fun z => z.cps.toList).flatten = ds
  | [] => rfl
  | d :: ds => by rw [List.map_cons, List.map_cons, List.flatten_cons, flat_singles ds]; rfl
theorem sum_singles : ∀ ds : List Nat, ((ds.map fun d => (⟨#[d]⟩ : Str)).map (·.length)).sum = ds.length
  | [] => rfl
  | d :: ds => by rw [List.map_cons, List.map_cons, List.sum_cons, sum_singles ds, List.length_cons]; show 1 + _ = _; omega
end L2
namespace L2
open PySem PySem.Spec PyProof.Rows
def CompB (J : It) (sub : List Nat) (tt : TT) (te : TE) (σ : St) (Q : VK) (H1 : Hp) : Prop := ∀ D, H1 D = none → ∃ W : Nat → Nat → List V → Hp → Prop, (∃ m, W 0 m [] (upd H1 D (.lst []))) ∧ ∀ i m ys H2, W i m ys H2 →
  (J.stop i H2 ∧ Q (.ref D) H2) ∨ (J.go i H2 ∧ ∃ N : List V → Hp → Prop, (∀ ys' H', N ys' H' → ∃ m', m' < m ∧ W (i + 1) m' ys' H') ∧ ∀ v H3, J.yld i H2 v H3 → tt (some v :: subσ sub σ) H3 fun b H4 => if b = true then
    te (some v :: subσ sub σ) H4 fun y H5 => H5 D = some (.lst ys) ∧ ys.length < sizeLine ∧ N (ys ++ [y]) (upd H5 D (.lst (ys ++ [y])))
    else N ys H4)
def CompB2 (K : PySem.W.Frag) (J : It) (sub : List Nat) (tt : TT) (te : TE) (σ : St) (Q : VK) (H1 : Hp) : Prop := ∀ D, H1 D = none → ∃ W : Nat → Nat → List V → Hp → Prop, (∃ m, W 0 m [] (upd H1 D (.lst []))) ∧ ∀ i m ys H2, W i m ys H2 →
  (J.stop i H2 ∧ Q (.ref D) H2) ∨ (J.go i H2 ∧ ∃ N : List V → Hp → Prop, (∀ ys' H', N ys' H' → ∃ m', m' < m ∧ W (i + 1) m' ys' H') ∧ ∀ v H3, J.yld i H2 v H3 → ∃ (t : Addr) (a b : V), v = .ref t ∧ SqT K H3 t [a, b] ∧ tt (some a :: some b :: subσ sub σ) H3 fun c H4 => if c = true then
    te (some a :: some b :: subσ sub σ) H4 fun y H5 => H5 D = some (.lst ys) ∧ ys.length < sizeLine ∧ N (ys ++ [y]) (upd H5 D (.lst (ys ++ [y])))
    else N ys H4)
section
variable {wi : TI} {sub : List Nat} {tt : TT} {te : TE} {σ : St} {H : Hp} {Q : VK} {K : PySem.W.Frag}
theorem rd_comp (h : wi σ H fun J H1 => CompB J sub tt te σ Q H1) : tComp wi sub tt te σ H Q := h
theorem rd_comp2 (h : wi σ H fun J H1 => CompB2 K J sub tt te σ Q H1) : tComp2 K wi sub tt te σ H Q := h
end
end L2
namespace Mine
open PySem L2
def top (i : Nat) : Stmt := PySem.Challenge.pw_unsaybook_k31_questions_as_texts.main.body.getD i (.Pass ⟨0, 0, 0, 0⟩)
abbrev sHas : Stmt := top 11
abbrev sName : Stmt := top 9
abbrev sNumber : Stmt := top 10
abbrev sAreKeys : Stmt := top 15
abbrev sOnce : Stmt := top 27
abbrev sCell : Stmt := top 45
abbrev sMix : Stmt := top 46
abbrev sBegun : Stmt := top 47
abbrev sPull : Stmt := top 48
abbrev sNames : Stmt := top 49
abbrev sWindow : Stmt := top 50
abbrev sDays : Stmt := top 51
abbrev sAmount : Stmt := top 52
abbrev sSome : Stmt := top 53
abbrev sLLeaf : Stmt := top 54
structure Cal (P : Program) (w : World) (K : PySem.W.Frag) (mg : Str → Option Value) (base : Heap) (x : Str) (k : Nat) (ps : List Str) (sp : Sp) (f : Addr) (fd : FuncData) : Prop where
  ok : FnOk P w K mg base CX0 k f fd ps sp
  nm : mg x = some (.ref f)
  kp : PySem.W.keepIn K (.ref f) = true
  bd : Binds K fd ps []
structure Free (mg : Str → Option Value) : Prop where
  «len» : mg "len" = none
  «range» : mg "range" = none
  «sorted» : mg "sorted" = none
  «isinstance» : mg "isinstance" = none
  «int» : mg "int" = none
  «bool» : mg "bool" = none
  «str» : mg "str" = none
  «list» : mg "list" = none
  «tuple» : mg "tuple" = none
  «dict» : mg "dict" = none
  «set» : mg "set" = none
  «max» : mg "max" = none
  «min» : mg "min" = none
  «all» : mg "all" = none
  «enumerate» : mg "enumerate" = none
  «abs» : mg "abs" = none
  «reversed» : mg "reversed" = none
def Grow (H H' : Hp) : Prop := ∀ b o, H b = some o → H' b = some o
theorem Grow.refl {H : Hp} : Grow H H := fun _ _ e => e
theorem Grow.trans {H H1 H2 : Hp} (g : Grow H H1) (g' : Grow H1 H2) : Grow H H2 := fun b o e => g' b o (g b o e)
theorem Grow.new {H : Hp} {a : Addr} {o : HO} (n : H a = none) : Grow H (upd H a o) := fun b o e => by rw [upd_ne (ne_of_none e n)]; exact e
def inZ (z : Str) (c : Nat) : Bool := decide (c ∈ z.cps.toList)
def hasB (x z : Str) (m : Int) : Bool := decide (1 ≤ (x.length : Int)) && (decide ((x.length : Int) ≤ m) && x.cps.toList.all (inZ z))
def spHas : Sp := fun vs H Q _ => ∃ (x z : Str) (m : Int), vs = [.str x, .str z, .int m] ∧ x.length < sizeLine ∧ ∀ H', Grow H H' → Q (.bl (hasB x z m)) H'
abbrev letZ : Str := Str.ofString "abcdefghijklmnopqrstuvwxyz"
abbrev figZ : Str := Str.ofString "0123456789"
structure Con (mg : Str → Option Value) : Prop where
  letters : ∃ t, mg "LETTERS" = some (.str letZ t)
  figures : ∃ t, mg "FIGURES" = some (.str figZ t)
  eight : ∃ t, mg "MOST_LETTERS" = some (.int 8 t)
  twelve : ∃ t, mg "MOST_FIGURES" = some (.int 12 t)
  lastday : ∃ t, mg "LAST_DAY" = some (.int 399 t)
  keys : ∃ t, mg "MOST_KEYS" = some (.int 8 t)
  value : ∃ t, mg "MOST_VALUE" = some (.int 1000000000 t)
  opn : ∃ t, mg "MOST_OPEN" = some (.int 3 t)
  rank : ∃ t, mg "MOST_RANK" = some (.int 400 t)
theorem tcomp_in {σ : St} {H : Hp} {Q : VK} {x z : Str} (e0 : σ[0]? = some (some (.str x))) (e1 : σ[1]? = some (some (.str z))) (hl : x.length < sizeLine)
    (hq : ∀ (D : Addr) (H' : Hp), H D = none → Grow H H' → H' D = some (.lst ((x.cps.toList.map (inZ z)).map V.bl)) → Q (.ref D) H') :
    tComp (iStr (tVar 0)) [1] (fun _ H Q => Q true H) (tOp (fun x y H Q => ∃ i j, x = .str i ∧ y = .str j ∧ Q (.bl (!(Builtin.Str.occurrences j i 0 j.length 1).isEmpty)) H) (tVar 0) (tVar 1)) σ H Q := by
  have es : subσ [1] σ = [some (.str z)] := by
    show [(σ[1]?).join] = _
    rw [e1]; rfl
  refine ⟨_, e0, x, rfl, fun D nD => comp_str (x := x) (sub := [1]) (tt := fun _ H Q => Q true H) (te := tOp (fun x y H Q => ∃ i j, x = .str i ∧ y = .str j ∧ Q (.bl (!(Builtin.Str.occurrences j i 0 j.length 1).isEmpty)) H) (tVar 0) (tVar 1)) (Q := Q) (σ := σ)
    (fun i ys H2 => ys = ((x.cps.toList.take i).map (inZ z)).map V.bl ∧ H2 = upd H D (.lst ys)) ⟨rfl, rfl⟩ (fun i c ys H2 hi hh => ?_) fun ys H2 hh => ?_⟩
  · obtain ⟨rfl, rfl⟩ := hh
    rw [es]
    show (if true = true then _ else _)
    rw [if_pos rfl]
    have hi' : x.cps.toList[i]? = some c := by simpa using hi
    have hil : i < x.cps.size := (Array.getElem?_eq_some_iff.mp hi).1
    refine ⟨_, rfl, _, rfl, _, _, rfl, rfl, upd_same, ?_, ?_, ?_⟩
    · rw [List.length_map, List.length_map, List.length_take]
      have : x.length < sizeLine := hl
      have e : x.cps.toList.length = x.length := by simp [Str.length]
      rw [e]
      omega
    · rw [List.take_add_one, hi', List.map_append, List.map_append, PySem.StrLaws.found_one]
      rfl
    · rw [upd_upd]
  · obtain ⟨rfl, rfl⟩ := hh
    refine hq D _ nD (Grow.new nD) ?_
    rw [upd_same, List.take_of_length_le (by simp)]
section
variable {P : Program} {w : World} {K : PySem.W.Frag} {mg : Str → Option Value} {base : Heap}
theorem scHas : FnScope ["text", "signs", "most"] ["text", "signs", "most"] (defScope sHas) := ⟨rfl, rfl, rfl, by decide +kernel, rfl, by decide +kernel, by decide +kernel⟩
theorem ok_has {f : Addr} {fd : FuncData} (F : Fun K "has_only" "has_only" sHas f fd) (N : Free mg) : FnOk P w K mg base CX0 1 f fd ["text", "signs", "most"] spHas := by
  refine F.ok (k := 0) scHas (fun vs H Q E h => ?_) (fun cdv A outer s H vs Q E hr h => ?_)
  · obtain ⟨x, z, m, rfl, _⟩ := h
    rfl
  · obtain ⟨x, z, m, rfl, hl, hq⟩ := h
    refine ⟨_, pss_one (ps_ret (pe_and (pe_chain op_le op_le pe_int (pe_callB call_len_str (by rfl) N.len PySem.boot_len (pa_cons (pv 0) pa_nil)) (pv 2))
      (pe_one (pe_callB (call_allB rfl) (by rfl) N.all PyProof.Rows.Boot.«all» (pa_cons (pe_comp1 (y := "signs") (i := 1) rfl (pi_str (pv 0)) rfl rfl (by decide) (by decide) rfl (by decide) rfl (.inr (.inl rfl)) (by show (some NameKind.cell) ≠ some NameKind.local; decide) (.inl rfl) rfl (fun C fp s H => pts_nil) (fun C fp s H => pe_cmpR op_in_str (pv 0) (pv 1) (by with_unfolding_all rfl))) pa_nil))))), ?_⟩
    have gr : ∀ {b}, hasB x z m = b → Q (.bl b) H := fun {b} e => by rw [← e]; exact hq H Grow.refl
    refine ⟨_, rfl, x, rfl, Nat.le_of_lt hl, _, _, rfl, rfl, _, rfl, ite2 (fun h1 => ?_) fun h1 => ⟨_, rfl, iteF (gr ?_)⟩⟩
    · refine ⟨_, rfl, _, _, rfl, rfl, _, rfl, ite2 (fun h2 => ?_) fun h2 => gr ?_⟩
      · unfold tCB tCons
        refine tcomp_in rfl rfl hl fun D H' nD g hD => ⟨D, _, rfl, SqL.of hD, ?_⟩
        have e : hasB x z m = (x.cps.toList.map (inZ z)).all id := by
          unfold hasB
          rw [h1, h2, Bool.true_and, Bool.true_and, List.all_map]; rfl
        rw [← e]
        exact hq H' g
      · unfold hasB
        rw [Bool.eq_false_iff.mpr h2, Bool.false_and, Bool.and_false]
    · unfold hasB
      rw [Bool.eq_false_iff.mpr h1, Bool.false_and]
end
theorem laid {H : Hp} {p : Addr} {o : HO} (h : H p = none) : Grow H (upd H p o) ∧ upd H p o p = some o := ⟨fun b u e => by rw [upd_ne (ne_of_none e h)]; exact e, upd_same⟩
def spCell (K : PySem.W.Frag) : Sp := fun vs H Q _ => ∃ (a : Addr) (ns : List Int) (k : Int), vs = [.ref a, .int k] ∧ SqL K H a (ns.map V.int) ∧ 0 ≤ k ∧ k < 2 ^ 62 ∧ ∀ n : Int, Q (.int n) H
def spMix : Sp := fun vs H Q _ => ∃ (c k : Int), vs = [.int c, .int k] ∧ ∀ n : Int, 0 ≤ n → n < 2147483587 → Q (.int n) H
def SAt (H : Hp) (s : Addr) : Prop := ∃ a c k : Int, H s = some (.lst [.int a, .int c, .int k]) ∧ 0 ≤ a
def Off (s : Addr) (H H' : Hp) : Prop := ∀ b o, H b = some o → b ≠ s → H' b = some o
theorem Off.trans {s : Addr} {H H1 H2 : Hp} (h : Off s H H1) (g : Off s H1 H2) : Off s H H2 := fun b o e n => g _ _ (h _ _ e n) n
theorem Off.grow {s : Addr} {H H' : Hp} (g : Grow H H') : Off s H H' := fun b o e _ => g _ _ e
theorem SAt.keep {H H' : Hp} {s : Addr} (h : SAt H s) (g : Grow H H') : SAt H' s := let ⟨a, c, k, e, z⟩ := h; ⟨a, c, k, g _ _ e, z⟩
def spBegun : Sp := fun vs H Q _ => ∃ (c : Int), vs = [.int c] ∧ ∀ (p : Addr) (H' : Hp), H p = none → Grow H H' → SAt H' p → Q (.ref p) H'
def spPull : Sp := fun vs H Q _ => ∃ (s : Addr) (m : Int), vs = [.ref s, .int m] ∧ SAt H s ∧ 0 < m ∧ m < 2 ^ 64 ∧ ∀ (n : Int) (H' : Hp), 0 ≤ n → n < m → Off s H H' → SAt H' s → Q (.int n) H'
section
variable {P : Program} {w : World} {K : PySem.W.Frag} {mg : Str → Option Value} {base : Heap}
theorem scCell : FnScope ["_law_script", "_law_k"] ["_law_script", "_law_k"] (defScope sCell) := ⟨rfl, rfl, rfl, by decide +kernel, rfl, by decide +kernel, by decide +kernel⟩
theorem ok_cell {f : Addr} {fd : FuncData} (F : Fun K "_law_cell" "_law_cell" sCell f fd) (N : Free mg) : FnOk P w K mg base CX0 1 f fd ["_law_script", "_law_k"] (spCell K) := by
  refine F.ok (k := 0) scCell (fun vs H Q E h => ?_) (fun cdv A outer s H vs Q E hr h => ?_)
  · obtain ⟨a, ns, k, rfl, _⟩ := h
    rfl
  · obtain ⟨a, ns, k, rfl, hS, hk, hk2, q⟩ := h
    have hu := hu_of hr
    refine ⟨_, (pss_cons (ps_if (pt_cmpR op_lt (pv 1) (pe_callB call_len_seq (by rfl) N.len PySem.boot_len (pa_cons (pv 0) pa_nil)) (nomark _)) (pss_one (ps_ret (pe_ix ix_list (pv 0) (pv 1) (fun _ _ => rfl)))) pss_nil)
      (pss_one (ps_ret (pe_op op_add (pe_op op_mul pe_int (pv 1)) pe_int)))), ?_⟩
    refine rd_seq (rd_if ⟨_, rfl, _, rfl, a, _, rfl, .inl hS, _, _, rfl, rfl, _, rfl, ?_⟩)
    refine ite2 (fun hlt => ?_) (fun _ => ?_)
    · have hlt : k < ((ns.map V.int).length : Int) := of_decide_eq_true hlt
      rw [List.length_map] at hlt
      obtain ⟨j, rfl⟩ : ∃ j : Nat, k = (j : Int) := ⟨k.toNat, by omega⟩
      have hk2 : j < ns.length := by omega
      refine ⟨_, rfl, _, rfl, a, _, (j : Int), .int ns[j], rfl, rfl, hS, atI_nat ?_, q _⟩
      rw [List.getElem?_map, List.getElem?_eq_getElem hk2]
      rfl
    · refine rd_next ?_
      exact ⟨_, rfl, _, _, rfl, rfl, .inl ⟨by decide, by decide⟩, _, _, rfl, rfl, q _⟩
end
section
variable {P : Program} {w : World} {K : PySem.W.Frag} {mg : Str → Option Value} {base : Heap}
theorem scMix : FnScope ["_law_cell_here", "_law_k", "_law_number"] ["_law_cell_here", "_law_k"] (defScope sMix) := ⟨rfl, rfl, rfl, by decide +kernel, rfl, by decide +kernel, by decide +kernel⟩
theorem ok_mix {f : Addr} {fd : FuncData} (F : Fun K "_law_mix" "_law_mix" sMix f fd)  : FnOk P w K mg base CX0 1 f fd ["_law_cell_here", "_law_k"] spMix := by
  refine F.ok (k := 0) scMix (fun vs H Q E h => ?_) (fun cdv A outer s H vs Q E hr h => ?_)
  · obtain ⟨c, k, rfl, _⟩ := h
    rfl
  · obtain ⟨c, k, rfl, q⟩ := h
    have hu := hu_of hr
    refine ⟨_, (pss_cons (ps_set (i := 2) scMix.nd rfl (Or.inl rfl) (pe_op op_mod (pe_op op_mul (pe_op op_add (pe_op op_add (pe_op op_mod (pv 0) pe_int) (pe_op op_mul pe_int (pv 1))) pe_int) pe_int) pe_int))
      (pss_cons (ps_set (i := 2) scMix.nd rfl (Or.inl rfl) (pe_op op_mod (pe_op op_add (pe_op op_mul (pv 2) (pv 2)) (pe_op op_mul pe_int (pv 1))) pe_int))
      (pss_one (ps_ret (pe_op op_mod (pe_op op_mul (pv 2) (pe_op op_add (pv 2) pe_int)) pe_int))))), ?_⟩
    have small : ∀ (x : Int) {m : Int}, 0 < m → m < 2 ^ 64 → -(2 ^ 64) < x % m ∧ x % m < 2 ^ 64 := fun x m h1 h2 => by
      have a := Int.emod_nonneg x (Int.ne_of_gt h1)
      have b := Int.emod_lt_of_pos x h1
      omega
    refine ⟨_, rfl, _, _, rfl, rfl, (by show (0 : Int) < 2147483629; decide), _, rfl, _, _, rfl, rfl, .inl ⟨by decide, by decide⟩, _, _, rfl, rfl, _, _, rfl, rfl, _, _, rfl, rfl, .inr ⟨by decide, by decide⟩, _, _, rfl, rfl, (by show (0 : Int) < 2147483647; decide), ?_⟩
    refine ⟨_, rfl, _, rfl, _, _, rfl, rfl, .inl (small _ (by decide) (by decide)), _, rfl, _, _, rfl, rfl, .inl ⟨by decide, by decide⟩, _, _, rfl, rfl, _, _, rfl, rfl, (by show (0 : Int) < 2147483629; decide), ?_⟩
    refine ⟨_, rfl, _, rfl, _, _, rfl, rfl, _, _, rfl, rfl, .inl (small _ (by decide) (by decide)), _, _, rfl, rfl, (by show (0 : Int) < 2147483587; decide), ?_⟩
    exact q _ (Int.emod_nonneg _ (by decide)) (Int.emod_lt_of_pos _ (by decide))
end
section
variable {P : Program} {w : World} {K : PySem.W.Frag} {mg : Str → Option Value} {base : Heap}
theorem scBegun : FnScope ["_law_cell_here"] ["_law_cell_here"] (defScope sBegun) := ⟨rfl, rfl, rfl, by decide +kernel, rfl, by decide +kernel, by decide +kernel⟩
theorem ok_begun {f : Addr} {fd : FuncData} (F : Fun K "_law_begun" "_law_begun" sBegun f fd)  : FnOk P w K mg base CX0 1 f fd ["_law_cell_here"] spBegun := by
  refine F.ok (k := 0) scBegun (fun vs H Q E h => ?_) (fun cdv A outer s H vs Q E hr h => ?_)
  · obtain ⟨c, rfl, _⟩ := h
    rfl
  · obtain ⟨c, rfl, q⟩ := h
    have hu := hu_of hr
    refine ⟨_, (pss_cons (ps_if (pt_cmpR op_ge (pv 0) (pe_op op_pow pe_int pe_int) (nomark _)) (pss_one (ps_ret (pe_lst (pa_cons (pv 0) (pa_cons (pv 0) (pa_cons pe_int pa_nil)))))) pss_nil)
      (pss_one (ps_ret (pe_lst (pa_cons pe_int (pa_cons (pv 0) (pa_cons pe_int pa_nil))))))), ?_⟩
    refine rd_seq (rd_if ⟨_, rfl, _, _, rfl, rfl, ⟨by decide, by decide, by decide⟩, _, _, rfl, rfl, _, rfl, ite2 (fun hc => ?_) fun _ => ?_⟩)
    · have hc : c ≥ 10 ^ Int.toNat 18 := of_decide_eq_true hc
      have h18 : (10 : Int) ^ Int.toNat 18 = 1000000000000000000 := by decide
      rw [h18] at hc
      exact ⟨_, rfl, _, rfl, by show 3 ≤ sizeLine; decide, fun p np => q p _ np (laid np).1 ⟨c, c, 0, upd_same, by omega⟩⟩
    · exact rd_next ⟨_, rfl, by show 3 ≤ sizeLine; decide, fun p np => q p _ np (laid np).1 ⟨0, c, 0, upd_same, by decide⟩⟩
end
section
variable {P : Program} {w : World} {K : PySem.W.Frag} {mg : Str → Option Value} {base : Heap}
theorem scPull : FnScope ["_law_state", "_law_many", "_law_number"] ["_law_state", "_law_many"] (defScope sPull) := ⟨rfl, rfl, rfl, by decide +kernel, rfl, by decide +kernel, by decide +kernel⟩
theorem ok_pull {f f1 : Addr} {fd : FuncData} (F : Fun K "_law_pull" "_law_pull" sPull f fd) {fd1 : FuncData} (CM : Cal P w K mg base "_law_mix" 1 ["_law_cell_here", "_law_k"] spMix f1 fd1) : FnOk P w K mg base CX0 2 f fd ["_law_state", "_law_many"] spPull := by
  refine F.ok (k := 1) scPull (fun vs H Q E h => ?_) (fun cdv A outer s H vs Q E hr h => ?_)
  · obtain ⟨s, m, rfl, _⟩ := h
    rfl
  · obtain ⟨s, m, rfl, ⟨a, c, k, hs, ha⟩, hm, hm2, q⟩ := h
    have hu := hu_of hr
    refine ⟨_, (pss_cons (ps_if (pt_cmpR op_gt (pe_ix ix_list (pv 0) pe_int (fun _ _ => rfl)) pe_int (nomark _)) (pss_cons (ps_set (i := 2) scPull.nd rfl (Or.inl rfl) (pe_op op_mod (pe_ix ix_list (pv 0) pe_int (fun _ _ => rfl)) (pv 1)))
      (pss_cons (ps_asg (pe_op op_fdivW (pe_ix ix_list (pv 0) pe_int (fun _ _ => rfl)) (pv 1)) (pg_sub (pv 0) pe_int set_list))
      (pss_one (ps_ret (pv 2))))) pss_nil)
      (pss_cons (ps_asg (pe_op op_add (pe_ix ix_list (pv 0) pe_int (fun _ _ => rfl)) pe_int) (pg_sub (pv 0) pe_int set_list))
      (pss_one (ps_ret (pe_op op_mod (pe_call CM.ok (hr.mono (by decide)) rfl CM.nm CM.kp CM.bd .nil pass0 (pa_cons (pe_ix ix_list (pv 0) pe_int (fun _ _ => rfl)) (pa_cons (pe_ix ix_list (pv 0) pe_int (fun _ _ => rfl)) pa_nil))) (pv 1)))))), ?_⟩
    have at0 : SqL K H s [.int a, .int c, .int k] := SqL.of hs
    refine rd_seq (rd_if ⟨_, rfl, s, _, 0, _, rfl, rfl, at0, rfl, _, _, rfl, rfl, _, rfl, ite2 (fun hc => ?_) fun hc => ?_⟩)
    · refine rd_seq (rd_asg ⟨_, rfl, s, _, 0, _, rfl, rfl, at0, rfl, _, rfl, _, _, rfl, rfl, hm, ?_⟩)
      dsimp only [gName, List.set_cons_zero, List.set_cons_succ]
      refine rd_seq (rd_asg ⟨_, rfl, s, _, 0, _, rfl, rfl, at0, rfl, _, rfl, _, _, rfl, rfl, ⟨hm, hm2⟩, ?_⟩)
      refine ⟨_, rfl, s, _, 0, 0, rfl, rfl, hs, rfl, rd_ret ⟨_, rfl, ?_⟩⟩
      exact q (a % m) _ (Int.emod_nonneg _ (by omega)) (Int.emod_lt_of_pos _ hm) (fun b o e n => by rw [upd_ne n]; exact e) ⟨a / m, c, k, upd_same, Int.ediv_nonneg ha (by omega)⟩
    · refine rd_next ?_
      dsimp only
      refine rd_seq (rd_asg ⟨_, rfl, s, _, 2, _, rfl, rfl, at0, rfl, _, _, rfl, rfl, _, rfl, s, _, 2, 2, rfl, rfl, hs, rfl, ?_⟩)
      dsimp only [gName, List.set_cons_zero, List.set_cons_succ]
      refine ⟨_, rfl, s, _, 1, _, rfl, rfl, SqL.of upd_same, rfl, _, rfl, s, _, 2, _, rfl, rfl, SqL.of upd_same, rfl, c, k + 1, rfl, fun n n0 n1 => ⟨_, rfl, _, _, rfl, rfl, hm, ?_⟩⟩
      exact q (n % m) _ (Int.emod_nonneg _ (by omega)) (Int.emod_lt_of_pos _ hm) (fun b o e n => by rw [upd_ne n]; exact e) ⟨a, c, k + 1, upd_same, ha⟩
end
def spWindow : Sp := fun vs H Q _ => ∃ (s : Addr), vs = [.ref s] ∧ SAt H s ∧ ∀ (t : Addr) (lo wd : Int) (H' : Hp), Off s H H' → SAt H' s → H' t = some (.tup [.int lo, .int wd]) → t ≠ s → 0 ≤ lo → 1 ≤ wd → lo + wd ≤ 400 → Q (.ref t) H'
def spDays : Sp := fun vs H Q _ => ∃ (s t : Addr) (lo wd : Int), vs = [.ref s, .ref t] ∧ SAt H s ∧ H t = some (.tup [.int lo, .int wd]) ∧ t ≠ s ∧ 0 ≤ lo ∧ 1 ≤ wd ∧ lo + wd ≤ 400 ∧ ∀ (u : Addr) (f l : Int) (H' : Hp), Off s H H' → SAt H' s → H' u = some (.tup [.int f, .int l]) → 0 ≤ f → f ≤ l → l < 400 → Q (.ref u) H'
def spAmount : Sp := fun vs H Q _ => ∃ (s : Addr), vs = [.ref s] ∧ SAt H s ∧ ∀ (n : Int) (H' : Hp), Off s H H' → SAt H' s → -1000000000 ≤ n → n ≤ 1000000000 → Q (.int n) H'
theorem fourW {d : Int} (h0 : 0 ≤ d) (h1 : d < 4) : ∃ m : Int, 1 ≤ m ∧ m ≤ 400 ∧ atI [V.int 1, V.int 12, V.int 40, V.int 400] d = some (V.int m) := by
  rcases (show d = 0 ∨ d = 1 ∨ d = 2 ∨ d = 3 by omega) with rfl | rfl | rfl | rfl
  · exact ⟨1, by decide, by decide, rfl⟩
  · exact ⟨12, by decide, by decide, rfl⟩
  · exact ⟨40, by decide, by decide, rfl⟩
  · exact ⟨400, by decide, by decide, rfl⟩
theorem SAt.ne {H : Hp} {s t : Addr} {xs : List V} (h : SAt H s) (e : H t = some (.tup xs)) : t ≠ s := fun z => by
  obtain ⟨a, c, k, e', _⟩ := h
  rw [z, e'] at e
  cases e
section
variable {P : Program} {w : World} {K : PySem.W.Frag} {mg : Str → Option Value} {base : Heap}
theorem scWindow : FnScope ["_law_state", "_law_wide"] ["_law_state"] (defScope sWindow) := ⟨rfl, rfl, rfl, by decide +kernel, rfl, by decide +kernel, by decide +kernel⟩
theorem ok_window {f f1 : Addr} {fd : FuncData} (F : Fun K "_law_window" "_law_window" sWindow f fd) {fd1 : FuncData} (CP : Cal P w K mg base "_law_pull" 2 ["_law_state", "_law_many"] spPull f1 fd1) : FnOk P w K mg base CX0 3 f fd ["_law_state"] spWindow := by
  refine F.ok (k := 2) scWindow (fun vs H Q E h => ?_) (fun cdv A outer s H vs Q E hr h => ?_)
  · obtain ⟨s, rfl, _⟩ := h
    rfl
  · obtain ⟨s, rfl, hs, q⟩ := h
    have hu := hu_of hr
    refine ⟨_, (pss_cons (ps_set (i := 1) scWindow.nd rfl (Or.inl rfl) (pe_ix ix_list (pe_lst (pa_cons pe_int (pa_cons pe_int (pa_cons pe_int (pa_cons pe_int pa_nil))))) (pe_call CP.ok (hr.mono (by decide)) rfl CP.nm CP.kp CP.bd .nil pass0 (pa_cons (pv 0) (pa_cons pe_int pa_nil))) (fun _ _ => rfl)))
      (pss_one (ps_ret (pe_tup (pa_cons (pe_call CP.ok (hr.mono (by decide)) rfl CP.nm CP.kp CP.bd .nil pass0 (pa_cons (pv 0) (pa_cons (pe_op op_sub pe_int (pv 1)) pa_nil))) (pa_cons (pv 1) pa_nil)))))), ?_⟩
    refine rd_seq (rd_asg ⟨by show 4 ≤ sizeLine; decide, fun l nl => ?_⟩)
    obtain ⟨g1, e1⟩ := laid (o := .lst [V.int 1, V.int 12, V.int 40, V.int 400]) nl
    have hs1 := hs.keep g1
    generalize upd H l _ = H1 at g1 e1 hs1 ⊢
    refine ⟨_, rfl, s, 4, rfl, hs1, by decide, by decide, fun n H2 n0 n1 o2 hs2 => ?_⟩
    obtain ⟨m, m1, m2, em⟩ := fourW n0 n1
    have nls : l ≠ s := fun z => by
      obtain ⟨a, c, k, e', _⟩ := hs
      rw [z, e'] at nl; cases nl
    refine ⟨l, _, _, _, rfl, rfl, SqL.of (o2 _ _ e1 nls), em, ?_⟩
    dsimp only [gName, List.set_cons_zero, List.set_cons_succ]
    refine rd_ret ⟨_, rfl, _, rfl, _, _, rfl, rfl, s, 401 - m, rfl, hs2, by omega, by omega, fun lo H3 l0 l1 o3 hs3 => ⟨_, rfl, by show 2 ≤ sizeLine; decide, fun t nt => ?_⟩⟩
    obtain ⟨g4, e4⟩ := laid (o := .tup [V.int lo, V.int m]) nt
    exact q t lo m _ (((Off.grow g1).trans o2).trans (o3.trans (Off.grow g4))) (hs3.keep g4) e4 (SAt.ne (hs3.keep g4) e4) l0 m1 (by omega)
end
section
variable {P : Program} {w : World} {K : PySem.W.Frag} {mg : Str → Option Value} {base : Heap}
theorem scDays : FnScope ["_law_state", "_law_window_here", "_law_first"] ["_law_state", "_law_window_here"] (defScope sDays) := ⟨rfl, rfl, rfl, by decide +kernel, rfl, by decide +kernel, by decide +kernel⟩
theorem ok_days {f f1 : Addr} {fd : FuncData} (F : Fun K "_law_days" "_law_days" sDays f fd) {fd1 : FuncData} (CP : Cal P w K mg base "_law_pull" 2 ["_law_state", "_law_many"] spPull f1 fd1) : FnOk P w K mg base CX0 3 f fd ["_law_state", "_law_window_here"] spDays := by
  refine F.ok (k := 2) scDays (fun vs H Q E h => ?_) (fun cdv A outer s H vs Q E hr h => ?_)
  · obtain ⟨s, t, lo, wd, rfl, _⟩ := h
    rfl
  · obtain ⟨s, t, lo, wd, rfl, hs, et, nts, h0, h1, h2, q⟩ := h
    have hu := hu_of hr
    refine ⟨_, (pss_cons (ps_set (i := 2) scDays.nd rfl (Or.inl rfl) (pe_op op_add (pe_ix ix_tup (pv 1) pe_int (fun _ _ => rfl)) (pe_call CP.ok (hr.mono (by decide)) rfl CP.nm CP.kp CP.bd .nil pass0 (pa_cons (pv 0) (pa_cons (pe_ix ix_tup (pv 1) pe_int (fun _ _ => rfl)) pa_nil)))))
      (pss_one (ps_ret (pe_tup (pa_cons (pv 2) (pa_cons (pe_op op_add (pv 2) (pe_call CP.ok (hr.mono (by decide)) rfl CP.nm CP.kp CP.bd .nil pass0 (pa_cons (pv 0) (pa_cons (pe_op op_sub (pe_op op_add (pe_ix ix_tup (pv 1) pe_int (fun _ _ => rfl)) (pe_ix ix_tup (pv 1) pe_int (fun _ _ => rfl))) (pv 2)) pa_nil)))) pa_nil)))))), ?_⟩
    refine rd_seq (rd_asg ⟨_, rfl, t, _, 0, _, rfl, rfl, SqT.of et, rfl, _, rfl, _, rfl, t, _, 1, _, rfl, rfl, SqT.of et, rfl, s, wd, rfl, hs, by omega, by omega, fun n H2 n0 n1 o2 hs2 => ⟨_, _, rfl, rfl, ?_⟩⟩)
    dsimp only [gName, List.set_cons_zero, List.set_cons_succ]
    have et2 := o2 _ _ et nts
    refine rd_ret ⟨_, rfl, _, rfl, _, rfl, _, rfl, t, _, 0, _, rfl, rfl, SqT.of et2, rfl, _, rfl, t, _, 1, _, rfl, rfl, SqT.of et2, rfl, _, _, rfl, rfl, _, rfl, _, _, rfl, rfl, s, _, rfl, hs2, by omega, by omega, fun m H3 m0 m1 o3 hs3 => ⟨_, _, rfl, rfl, by show 2 ≤ sizeLine; decide, fun u nu => ?_⟩⟩
    obtain ⟨g4, e4⟩ := laid (o := .tup [V.int (lo + n), V.int (lo + n + m)]) nu
    exact q u (lo + n) (lo + n + m) _ (o2.trans (o3.trans (Off.grow g4))) (hs3.keep g4) e4 (by omega) (by omega) (by omega)
end
section
variable {P : Program} {w : World} {K : PySem.W.Frag} {mg : Str → Option Value} {base : Heap}
theorem scAmount : FnScope ["_law_state", "_law_way"] ["_law_state"] (defScope sAmount) := ⟨rfl, rfl, rfl, by decide +kernel, rfl, by decide +kernel, by decide +kernel⟩
theorem ok_amount {f f1 : Addr} {fd : FuncData} (F : Fun K "_law_amount" "_law_amount" sAmount f fd) {fd1 : FuncData} (CP : Cal P w K mg base "_law_pull" 2 ["_law_state", "_law_many"] spPull f1 fd1) : FnOk P w K mg base CX0 3 f fd ["_law_state"] spAmount := by
  refine F.ok (k := 2) scAmount (fun vs H Q E h => ?_) (fun cdv A outer s H vs Q E hr h => ?_)
  · obtain ⟨s, rfl, _⟩ := h
    rfl
  · obtain ⟨s, rfl, hs, q⟩ := h
    have hu := hu_of hr
    refine ⟨_, (pss_cons (ps_set (i := 1) scAmount.nd rfl (Or.inl rfl) (pe_call CP.ok (hr.mono (by decide)) rfl CP.nm CP.kp CP.bd .nil pass0 (pa_cons (pv 0) (pa_cons pe_int pa_nil))))
      (pss_cons (ps_if (pt_cmpR op_lt (pv 1) pe_int (nomark _)) (pss_one (ps_ret (pe_call CP.ok (hr.mono (by decide)) rfl CP.nm CP.kp CP.bd .nil pass0 (pa_cons (pv 0) (pa_cons pe_int pa_nil))))) pss_nil)
      (pss_cons (ps_if (pt_cmpR op_eq (pv 1) pe_int (nomark _)) (pss_one (ps_ret (pe_op op_sub (pe_call CP.ok (hr.mono (by decide)) rfl CP.nm CP.kp CP.bd .nil pass0 (pa_cons (pv 0) (pa_cons pe_int pa_nil))) pe_int))) pss_nil)
      (pss_one (ps_ret (pe_op op_sub (pe_call CP.ok (hr.mono (by decide)) rfl CP.nm CP.kp CP.bd .nil pass0 (pa_cons (pv 0) (pa_cons (pe_op op_add (pe_op op_mul pe_int (pe_op op_pow pe_int pe_int)) pe_int) pa_nil))) (pe_op op_pow pe_int pe_int))))))), ?_⟩
    refine rd_seq (rd_asg ⟨_, rfl, s, 4, rfl, hs, by decide, by decide, fun n H2 n0 n1 o2 hs2 => ?_⟩)
    dsimp only [gName, List.set_cons_zero, List.set_cons_succ]
    refine rd_seq (rd_if ⟨_, rfl, _, _, rfl, rfl, _, rfl, ite2 (fun _ => ?_) fun _ => rd_next ?_⟩)
    · exact rd_ret ⟨_, rfl, s, 4, rfl, hs2, by decide, by decide, fun m H3 m0 m1 o3 hs3 => q m H3 (o2.trans o3) hs3 (by omega) (by omega)⟩
    dsimp only
    refine rd_seq (rd_if ⟨_, rfl, rfl, _, rfl, ite2 (fun _ => ?_) fun _ => rd_next ?_⟩)
    · exact rd_ret ⟨_, rfl, s, 41, rfl, hs2, by decide, by decide, fun m H3 m0 m1 o3 hs3 => ⟨_, _, rfl, rfl, q (m - 20) H3 (o2.trans o3) hs3 (by omega) (by omega)⟩⟩
    dsimp only
    have h9 : (10 : Int) ^ Int.toNat 9 = 1000000000 := by decide
    refine rd_ret ⟨_, rfl, _, _, rfl, rfl, ⟨by decide, by decide, by decide⟩, _, _, rfl, rfl, .inl ⟨by decide, by decide⟩, _, _, rfl, rfl, s, _, rfl, hs2, by decide, by decide, fun m H3 m0 m1 o3 hs3 => ⟨_, _, rfl, rfl, ⟨by decide, by decide, by decide⟩, _, _, rfl, rfl, ?_⟩⟩
    rw [h9] at m1 ⊢
    exact q _ H3 (o2.trans o3) hs3 (by omega) (by omega)
end
end Mine
namespace Mine
open PySem L2
theorem erase_perm {α : Type} : ∀ (xs : List α) (j : Nat) (h : j < xs.length), (xs[j] :: xs.eraseIdx j).Perm xs
  | x :: xs, 0, _ => .refl _
  | x :: xs, j + 1, h => by
    have ih := erase_perm xs j (Nat.lt_of_succ_lt_succ h)
    rw [List.eraseIdx_cons_succ, List.getElem_cons_succ]
    exact (List.Perm.swap _ _ _).trans (ih.cons x)
def spSome : Sp := fun vs H Q _ => ∃ (s ln : Addr) (ss : List Str) (m : Int), vs = [.ref s, .ref ln, .int m] ∧ SAt H s ∧ H ln = some (.lst (ss.map V.str)) ∧ ln ≠ s ∧ 1 ≤ m ∧ m ≤ ss.length ∧ ss.length ≤ 100 ∧
  ∀ (p : Addr) (xs ys : List Str) (H' : Hp), H p = none → Off s H H' → SAt H' s → H' p = some (.lst (xs.map V.str)) → xs ≠ [] → (xs ++ ys).Perm ss → (xs.length : Int) ≤ m → Q (.ref p) H'
inductive SoI (H : Hp) (s ln l p : Addr) (ss : List Str) (m : Int) (i : Nat) (σ : St) (H2 : Hp) : Prop
  | mk (xs ys : List Str) (v5 : Option V) (h1 : σ = [some (.ref s), some (.ref ln), some (.int m), some (.ref l), some (.ref p), v5]) (h2 : Off s H H2) (h3 : SAt H2 s) (h4 : H2 l = some (.lst (ys.map V.str))) (h5 : H2 p = some (.lst (xs.map V.str))) (h6 : (xs ++ ys).Perm ss) (h7 : xs.length = i) : SoI H s ln l p ss m i σ H2
theorem SAt.lst {H : Hp} {s : Addr} (h : SAt H s) : ∃ xs, H s = some (.lst xs) := let ⟨_, _, _, e, _⟩ := h; ⟨_, e⟩
theorem SAt.off {H H' : Hp} {s b : Addr} (h : SAt H s) (n : b ≠ s) (g : ∀ b' o, H b' = some o → b' ≠ b → H' b' = some o) : SAt H' s := let ⟨a, c, k, e, z⟩ := h; ⟨a, c, k, g _ _ e (Ne.symm n), z⟩
section
variable {P : Program} {w : World} {K : PySem.W.Frag} {mg : Str → Option Value} {base : Heap}
theorem scSome : FnScope ["_law_state", "_law_names_here", "_law_most", "_law_left", "_law_found", "_law_k"] ["_law_state", "_law_names_here", "_law_most"] (defScope sSome) := ⟨rfl, rfl, rfl, by decide +kernel, rfl, by decide +kernel, by decide +kernel⟩
theorem ok_some {f f1 : Addr} {fd : FuncData} (F : Fun K "_law_some" "_law_some" sSome f fd) (N : Free mg) {fd1 : FuncData} (CP : Cal P w K mg base "_law_pull" 2 ["_law_state", "_law_many"] spPull f1 fd1) : FnOk P w K mg base CX0 3 f fd ["_law_state", "_law_names_here", "_law_most"] spSome := by
  refine F.ok (k := 2) scSome (fun vs H Q E h => ?_) (fun cdv A outer s H vs Q E hr h => ?_)
  · obtain ⟨s, ln, ss, m, rfl, _⟩ := h
    rfl
  · obtain ⟨s, ln, ss, m, rfl, hs, el, nls, m1, m2, h100, q⟩ := h
    have hu := hu_of hr
    refine ⟨_, (pss_cons (ps_set (i := 3) scSome.nd rfl (Or.inl rfl) (pe_callTy call_list_of (by rfl) N.list PyProof.Rows.Boot.«list» (pa_kons (pv 1) pa_nil)))
      (pss_cons (ps_set (i := 4) scSome.nd rfl (Or.inl rfl) (pe_lst pa_nil))
      (pss_cons (ps_for PassesOwn.never rfl (pi_range1 rfl N.range (pa_kons (pe_op op_add pe_int (pe_call CP.ok (hr.mono (by decide)) rfl CP.nm CP.kp CP.bd .nil pass0 (pa_kons (pv 0) (pa_kons (pv 2) pa_nil)))) pa_nil)) (pg_name (i := 5) scSome.nd rfl (Or.inl rfl))
      (pss_one (ps_expr (pe_bm PySem.F.plainAttrs_list PySem.F.slot_list_append PySem.F.type_list_append mt_append (pv 4) (pa_kons (pe_bm PySem.F.plainAttrs_list PySem.F.slot_list_pop PySem.F.type_list_pop mt_popAt (pv 3) (pa_kons (pe_call CP.ok (hr.mono (by decide)) rfl CP.nm CP.kp CP.bd .nil pass0 (pa_kons (pv 0) (pa_kons (pe_callB call_len_seq (by rfl) N.len PySem.boot_len (pa_kons (pv 3) pa_nil)) pa_nil))) pa_nil)) pa_nil)))))
      (pss_one (ps_ret (pv 4)))))), ?_⟩
    refine rd_seq (rd_asg ⟨_, rfl, ln, _, rfl, .inl (SqL.of el), fun l nl => ?_⟩)
    dsimp only [gName, List.set_cons_zero, List.set_cons_succ]
    obtain ⟨g1, e1⟩ := laid (o := .lst (ss.map V.str)) nl
    have hs1 := hs.keep g1
    have nl2 : l ≠ s := fun z => by obtain ⟨xs, e⟩ := hs.lst; rw [z, e] at nl; cases nl
    generalize upd H l _ = H1 at g1 e1 hs1 ⊢
    refine rd_seq (rd_asg ⟨by show 0 ≤ sizeLine; decide, fun p np => ?_⟩)
    dsimp only [gName, List.set_cons_zero, List.set_cons_succ]
    obtain ⟨g2, e2⟩ := laid (o := .lst []) np
    have np0 : H p = none := by
      cases e : H p with
      | none => rfl
      | some o => rw [g1 _ _ e] at np; cases np
    have nl0 : H l = none := nl
    have hs2 := hs1.keep g2
    have np2 : p ≠ s := fun z => by obtain ⟨xs, e⟩ := hs1.lst; rw [z, e] at np; cases np
    have npl : p ≠ l := fun z => by rw [z, e1] at np; cases np
    have e1 := g2 _ _ e1
    have g12 := g1.trans g2
    generalize upd H1 p _ = H2 at g2 e2 hs2 e1 g12 ⊢
    have hle : (ss.length : Int) ≤ 100 := by omega
    refine rd_seq ⟨_, rfl, _, rfl, s, m, rfl, hs2, by omega, by omega, fun r H3 r0 r1 o3 hs3 => ⟨_, _, rfl, rfl, _, rfl, by omega, by omega, for_range (n := (1 + r).toNat) (SoI H s ln l p ss m) ⟨[], ss, none, rfl, (Off.grow g12).trans o3, hs3, o3 _ _ e1 nl2, o3 _ _ e2 np2, .refl _, rfl⟩ (fun i σ H4 hi hh => ?_) fun σ H4 hh => ?_⟩⟩
    · obtain ⟨xs, ys, v5, rfl, o4, hs4, el4, ep4, pm, hl⟩ := hh
      dsimp only [gName, List.set_cons_zero, List.set_cons_succ]
      have hlen := pm.length_eq
      rw [List.length_append] at hlen
      have hys : 0 < ys.length := by omega
      refine rd_expr ⟨_, rfl, .inl ⟨rfl, _, SqL.of ep4⟩, _, rfl, .inl ⟨rfl, _, SqL.of el4⟩, _, rfl, _, rfl, l, _, rfl, .inl (SqL.of el4), s, _, rfl, hs4, ?_, ?_, fun j H5 j0 j1 o5 hs5 => ?_⟩
      · rw [List.length_map]; omega
      · rw [List.length_map]; omega
      · rw [List.length_map] at j1
        have el5 := o5 _ _ el4 nl2
        have ep5 := o5 _ _ ep4 np2
        obtain ⟨jn, rfl⟩ : ∃ jn : Nat, j = (jn : Int) := ⟨j.toNat, by omega⟩
        have hj : jn < ys.length := by omega
        refine ⟨l, _, _, jn, .str ys[jn], rfl, rfl, el5, by omega, by omega, by rw [PySem.StrLaws.seqIndex_nonneg (by omega) (by rw [List.length_map]; omega)]; rfl, by rw [List.getElem?_map, List.getElem?_eq_getElem hj]; rfl, ?_⟩
        have o6 : ∀ b o, H5 b = some o → b ≠ l → upd H5 l (.lst ((ys.map V.str).eraseIdx jn)) b = some o := fun b o e n => by rw [upd_ne n]; exact e
        refine ⟨p, _, _, rfl, rfl, o6 _ _ ep5 npl, by rw [List.length_map]; exact small1000 (by omega), xs ++ [ys[jn]], ys.eraseIdx jn, _, rfl, fun b o e n => ?_, ?_, ?_, ?_, ?_, by rw [List.length_append, hl]; rfl⟩
        · rw [upd_ne (ne_of_none e np0)]
          exact o6 _ _ ((o4.trans o5) _ _ e n) (ne_of_none e nl0)
        · refine (hs5.off nl2 o6).off np2 fun b o e n => ?_
          rw [upd_ne n]; exact e
        · rw [upd_ne (Ne.symm npl), upd_same, eraseIdx_map']
        · rw [upd_same, List.map_append]; rfl
        · have e9 : (ys[jn] :: ys.eraseIdx jn).Perm ys := erase_perm ys jn hj
          rw [List.append_assoc]
          exact ((List.Perm.refl xs).append e9).trans pm
    · obtain ⟨xs, ys, v5, rfl, o4, hs4, el4, ep4, pm, hl⟩ := hh
      refine rd_ret ⟨_, rfl, q p xs ys _ np0 o4 hs4 ep4 ?_ pm ?_⟩
      · intro z
        rw [z] at hl
        have : (1 + r).toNat = 0 := hl.symm
        omega
      · rw [hl]; omega
end
end Mine
namespace Mine
open PySem L2
theorem let_at {i : Int} (h0 : 0 ≤ i) (h1 : i < 26) : atI letZ.cps.toList i = some (97 + i.toNat) := by
  obtain ⟨j, rfl⟩ : ∃ j : Nat, i = (j : Int) := ⟨i.toNat, by omega⟩
  refine atI_nat ?_
  have hj : j < 26 := by omega
  rw [Int.toNat_natCast]
  have : ∀ j, j < 26 → letZ.cps.toList[j]? = some (97 + j) := by decide +kernel
  exact this j hj
def LowC (c : Nat) : Prop := 97 ≤ c ∧ c ≤ 122
theorem lowC_in {c : Nat} (h : LowC c) : inZ letZ c = true := by
  unfold inZ
  refine decide_eq_true ?_
  have : ∀ c, c < 123 → 97 ≤ c → c ∈ letZ.cps.toList := by decide +kernel
  exact this c (by unfold LowC at h; omega) h.1
abbrev w12 : List Str := [Str.ofString "number", Str.ofString "value", Str.ofString "sum", Str.ofString "count", Str.ofString "least", Str.ofString "since", Str.ofString "part", Str.ofString "change", Str.ofString "plus", Str.ofString "less", Str.ofString "same", Str.ofString "minus"]
theorem low_has {k : Str} (h1 : 1 ≤ k.length) (h2 : k.length ≤ 8) (hc : ∀ c ∈ k.cps.toList, LowC c) : hasB k letZ 8 = true := by
  unfold hasB
  rw [decide_eq_true (show (1 : Int) ≤ k.length by omega), decide_eq_true (show (k.length : Int) ≤ 8 by omega), Bool.true_and, Bool.true_and, List.all_eq_true]
  exact fun c hcc => lowC_in (hc c hcc)
def Nms (ss : List Str) : Prop := ss.length = 8 ∧ ss.Nodup ∧ ∀ x ∈ ss, hasB x letZ 8 = true
def rot (j : Nat) : List Str := ((w12.drop j) ++ (w12.take j)).take 8
theorem rot_ok : ∀ j : Fin 12, (rot j.val).length = 8 ∧ (rot j.val).Nodup ∧ ∀ x ∈ rot j.val, hasB x letZ 8 = true := by decide +kernel
theorem rot_cut : ∀ j : Fin 12, cutV (cutV (w12.map V.str) (some (j.val : Int)) none ++ cutV (w12.map V.str) none (some (j.val : Int))) none (some 8) = (rot j.val).map V.str := by decide +kernel
theorem compB_st {sub : List Nat} {te : TE} {σ : St} {H : Hp} {Q : VK} {n : Nat} {s : Addr} (hs : SAt H s) (hn : n ≤ 1000) (P : Int → Prop) (hte : ∀ (i : Nat) (H2 : Hp) (R : VK), i < n → SAt H2 s → (∀ x H3, P x → Off s H2 H3 → SAt H3 s → R (.int x) H3) → te (some (.int (0 + (i : Int))) :: subσ sub σ) H2 R)
    (hq : ∀ (D : Addr) (bs : List Int) (H' : Hp), H D = none → Off s H H' → SAt H' s → H' D = some (.lst (bs.map V.int)) → bs.length = n → (∀ x ∈ bs, P x) → Q (.ref D) H') : CompB (Itr 0 n) sub (fun _ H Q => Q true H) te σ Q H := by
  intro D nD
  have nDs : D ≠ s := fun z => by obtain ⟨xs, e⟩ := hs.lst; rw [z, e] at nD; cases nD
  refine comp_range (lo := 0) (n := n) (sub := sub) (tt := fun _ H Q => Q true H) (te := te) (Q := Q) (σ := σ) (fun i ys H2 => ∃ bs : List Int, ys = bs.map V.int ∧ bs.length = i ∧ H2 D = some (.lst ys) ∧ Off s H H2 ∧ SAt H2 s ∧ ∀ x ∈ bs, P x) ⟨[], rfl, rfl, upd_same, Off.grow (laid nD).1, hs.keep (laid nD).1, (fun _ z => nomatch z)⟩ (fun i ys H2 hi hh => ?_) fun ys H2 hh => ?_
  · obtain ⟨bs, rfl, hl, e2, o2, s2, h2⟩ := hh
    refine iteT (hte i _ _ hi s2 fun x H3 hx o3 s3 => ⟨o3 _ _ e2 nDs, by rw [List.length_map]; exact small1000 (by omega), bs ++ [x], by rw [List.map_append]; rfl, by rw [List.length_append, hl]; rfl, upd_same, fun b o e nb => by rw [upd_ne (ne_of_none e nD)]; exact o3 _ _ (o2 _ _ e nb) nb, s3.off nDs (fun b o e nb => by rw [upd_ne nb]; exact e), fun y hy => ?_⟩)
    rcases List.mem_append.mp hy with hy | hy
    · exact h2 y hy
    · rw [List.mem_singleton.mp hy]; exact hx
  · obtain ⟨bs, rfl, hl, e2, o2, s2, h2⟩ := hh
    exact hq D bs H2 nD o2 s2 e2 hl h2
theorem compB_tx {K : PySem.W.Frag} {la : Addr} {zs : List Int} {sub : List Nat} {te : TE} {σ : St} {Q : VK} {H : Hp} (g : Int → Str) (hn : zs.length < 1000) (ha : H la = some (.lst (zs.map V.int))) (hte : ∀ (z : Int) (H2 : Hp) (R : VK), R (.str (g z)) H2 → te (some (.int z) :: subσ sub σ) H2 R)
    (hq : ∀ (D : Addr), H D = none → Q (.ref D) (upd H D (.lst ((zs.map g).map V.str)))) : CompB (Itl K la) sub (fun _ H Q => Q true H) te σ Q H := by
  intro D nD
  have nl : la ≠ D := ne_of_none ha nD
  refine comp_list (K := K) (a := la) (xs := zs.map V.int) (sub := sub) (tt := fun _ H Q => Q true H) (te := te) (Q := Q) (σ := σ) (fun i ys H2 => ys = ((zs.take i).map g).map V.str ∧ H2 = upd H D (.lst ys)) ⟨by rw [List.take_zero]; rfl, rfl⟩ (fun i ys H2 _ hh => ?_) (fun i x ys H2 hi hh => ?_) fun ys H2 hh => ?_
  · obtain ⟨_, rfl⟩ := hh
    exact SqL.of (by rw [upd_ne nl]; exact ha)
  · obtain ⟨rfl, rfl⟩ := hh
    rw [List.getElem?_map] at hi
    obtain ⟨z, hz, rfl⟩ := Option.map_eq_some_iff.mp hi
    refine iteT (hte z _ _ ⟨upd_same, ?_, ?_, upd_upd⟩)
    · rw [List.length_map, List.length_map, List.length_take]; exact small1000 (by omega)
    · rw [List.take_add_one, hz, List.map_append, List.map_append]; rfl
  · obtain ⟨rfl, rfl⟩ := hh
    rw [List.length_map, List.take_length]
    exact hq D nD
theorem compB_ri {sub : List Nat} {te : TE} {σ : St} {H : Hp} {Q : VK} {n : Nat} (f : Nat → V) (hn : n ≤ 1000) (hte : ∀ (i : Nat) (H2 : Hp) (R : VK), i < n → Grow H H2 → R (f i) H2 → te (some (.int (0 + (i : Int))) :: subσ sub σ) H2 R)
    (hq : ∀ D, H D = none → Q (.ref D) (upd H D (.lst ((List.range n).map f)))) : CompB (Itr 0 n) sub (fun _ H Q => Q true H) te σ Q H := by
  intro D nD
  refine comp_range (lo := 0) (n := n) (sub := sub) (tt := fun _ H Q => Q true H) (te := te) (Q := Q) (σ := σ) (fun i ys H2 => ys = (List.range i).map f ∧ H2 = upd H D (.lst ys)) ⟨rfl, rfl⟩ (fun i ys H2 hi hh => ?_) fun ys H2 hh => ?_
  · obtain ⟨rfl, rfl⟩ := hh
    refine iteT (hte i _ _ hi (laid nD).1 ⟨upd_same, by rw [List.length_map, List.length_range]; exact small1000 (by omega), by rw [List.range_succ, List.map_append]; rfl, upd_upd⟩)
  · obtain ⟨rfl, rfl⟩ := hh
    exact hq D nD
def sgE (bs : List Int) (at_ : Int) (k j : Nat) : Int := bs.getD j 0 + 3 * (k : Int) * (if (j : Int) = at_ then 1 else 0)
def gZ (z : Int) : Str := ⟨#[97 + (z % 26).toNat]⟩
def nmK (bs : List Int) (at_ sz : Int) (k : Nat) : Str := Txt.join (Str.ofString "") (((List.range sz.toNat).map (sgE bs at_ k)).map gZ)
theorem gZ_map (xs : List Int) : xs.map gZ = (xs.map fun z => 97 + (z % 26).toNat).map fun d => (⟨#[d]⟩ : Str) := by rw [List.map_map]; rfl
theorem gZ_sum (xs : List Int) : ((xs.map gZ).map (·.length)).sum = xs.length := by rw [gZ_map, sum_singles, List.length_map]
theorem nmK_cps (bs : List Int) (at_ sz : Int) (k : Nat) : (nmK bs at_ sz k).cps.toList = (List.range sz.toNat).map fun j => 97 + (sgE bs at_ k j % 26).toNat := by
  unfold nmK
  rw [gZ_map, join0, flat_singles, List.map_map]
  rfl
theorem nmK_ok {bs : List Int} {at_ sz : Int} (h1 : 1 ≤ sz) (h8 : sz ≤ 8) (a0 : 0 ≤ at_) (a1 : at_ < sz) : Nms ((List.range 8).map (nmK bs at_ sz)) := by
  refine ⟨by rw [List.length_map, List.length_range], ?_, fun x hx => ?_⟩
  · refine List.pairwise_map.mpr (List.Pairwise.imp_of_mem (fun {i j} hi hj hlt e => ?_) List.pairwise_lt_range)
    have hi := List.mem_range.mp hi
    have hj := List.mem_range.mp hj
    have e := congrArg (fun x : Str => x.cps.toList[at_.toNat]?) e
    have ht : at_.toNat < sz.toNat := by omega
    rw [nmK_cps, nmK_cps, List.getElem?_map, List.getElem?_map, List.getElem?_range ht] at e
    have e : 97 + (sgE bs at_ i at_.toNat % 26).toNat = 97 + (sgE bs at_ j at_.toNat % 26).toNat := Option.some.inj e
    have z : ((at_.toNat : Nat) : Int) = at_ := by omega
    unfold sgE at e
    rw [if_pos z] at e
    generalize bs.getD at_.toNat 0 = b at e
    omega
  · obtain ⟨k, _, rfl⟩ := List.mem_map.mp hx
    have hl : (nmK bs at_ sz k).length = sz.toNat := by rw [len_cps, nmK_cps, List.length_map, List.length_range]
    refine low_has (by omega) (by omega) fun c hc => ?_
    rw [nmK_cps] at hc
    obtain ⟨j, _, rfl⟩ := List.mem_map.mp hc
    have := Int.emod_nonneg (sgE bs at_ k j) (show (26 : Int) ≠ 0 by decide)
    have := Int.emod_lt_of_pos (sgE bs at_ k j) (show (0 : Int) < 26 by decide)
    unfold LowC
    omega
inductive NmI (H : Hp) (c : Int) (lw s D p : Addr) (at_ sz : Int) (bs : List Int) (k : Nat) (σ : St) (H2 : Hp) : Prop
  | mk (v7 v8 : Option V) (h1 : σ = [some (.int c), some (.ref lw), some (.ref s), some (.int at_), some (.int sz), some (.ref D), some (.ref p), v7, v8]) (h2 : Grow H H2) (h3 : H2 D = some (.lst (bs.map V.int))) (h4 : H2 p = some (.lst (((List.range k).map (nmK bs at_ sz)).map V.str))) : NmI H c lw s D p at_ sz bs k σ H2
def spNames : Sp := fun vs H Q _ => ∃ (c : Int), vs = [.int c] ∧ ∀ (p : Addr) (ss : List Str) (H' : Hp), H p = none → Grow H H' → H' p = some (.lst (ss.map V.str)) → Nms ss → Q (.ref p) H'
section
variable {P : Program} {w : World} {K : PySem.W.Frag} {mg : Str → Option Value} {base : Heap}
theorem scNames : FnScope ["_law_cell_here", "_law_some_here", "_law_state", "_law_at", "_law_size", "_law_base", "_law_names_here", "_law_k", "_law_signs"] ["_law_cell_here"] (defScope sNames) := ⟨rfl, rfl, rfl, by decide +kernel, rfl, by decide +kernel, by decide +kernel⟩
theorem ok_names {f f1 f2 : Addr} {fd : FuncData} (F : Fun K "_law_names" "_law_names" sNames f fd) (N : Free mg) {fd1 : FuncData} (CB : Cal P w K mg base "_law_begun" 1 ["_law_cell_here"] spBegun f1 fd1) {fd2 : FuncData} (CP : Cal P w K mg base "_law_pull" 2 ["_law_state", "_law_many"] spPull f2 fd2) : FnOk P w K mg base CX0 3 f fd ["_law_cell_here"] spNames := by
  refine F.ok (k := 2) scNames (fun vs H Q E h => ?_) (fun cdv A outer s H vs Q E hr h => ?_)
  · obtain ⟨c, rfl, _⟩ := h
    rfl
  · obtain ⟨c, rfl, q⟩ := h
    have hu := hu_of hr
    refine ⟨_, (@pss_cons _ _ _ _ _ (@ps_set (i := 1) _ _ _ _ _ _ scNames.nd rfl (Or.inl rfl) (@pe_lst _ _ _ _ (@pa_kons _ _ _ _ _ pe_str (@pa_kons _ _ _ _ _ pe_str (@pa_kons _ _ _ _ _ pe_str (@pa_kons _ _ _ _ _ pe_str (@pa_kons _ _ _ _ _ pe_str (@pa_kons _ _ _ _ _ pe_str (@pa_kons _ _ _ _ _ pe_str (@pa_kons _ _ _ _ _ pe_str (@pa_kons _ _ _ _ _ pe_str (@pa_kons _ _ _ _ _ pe_str (@pa_kons _ _ _ _ _ pe_str (@pa_kons _ _ _ _ _ pe_str pa_nil rfl) rfl) rfl) rfl) rfl) rfl) rfl) rfl) rfl) rfl) rfl) rfl)) (by rfl) (by first | exact .inl rfl | exact .inr rfl))
      (pss_cons (ps_set (i := 2) scNames.nd rfl (Or.inr rfl) (pe_call CB.ok (hr.mono (by decide)) rfl CB.nm CB.kp CB.bd .nil pass0 (pa_kons (pv 0) pa_nil)))
      (pss_cons (ps_if (pt_cmpR op_eq (pe_call CP.ok (hr.mono (by decide)) rfl CP.nm CP.kp CP.bd .nil pass0 (pa_kons (pv 2) (pa_kons pe_int pa_nil))) pe_int (nomark _)) (pss_cons (ps_set (i := 3) scNames.nd rfl (Or.inr rfl) (pe_call CP.ok (hr.mono (by decide)) rfl CP.nm CP.kp CP.bd .nil pass0 (pa_kons (pv 2) (pa_kons pe_int pa_nil))))
      (pss_one (ps_ret (pe_slice sl_list (pe_op op_cat (pe_slice sl_list (pv 1) (po_some (pv 3)) po_none) (pe_slice sl_list (pv 1) po_none (po_some (pv 3)))) po_none (po_some pe_int))))) pss_nil)
      (pss_cons (ps_set (i := 4) scNames.nd rfl (Or.inl rfl) (pe_op op_add pe_int (pe_call CP.ok (hr.mono (by decide)) rfl CP.nm CP.kp CP.bd .nil pass0 (pa_kons (pv 2) (pa_kons pe_int pa_nil)))))
      (pss_cons (ps_set (i := 3) scNames.nd rfl (Or.inr rfl) (pe_call CP.ok (hr.mono (by decide)) rfl CP.nm CP.kp CP.bd .nil pass0 (pa_kons (pv 2) (pa_kons (pv 4) pa_nil))))
      (pss_cons (ps_set (i := 5) scNames.nd rfl (Or.inr rfl) (pe_of (pec_compN rfl (pi_range1 rfl N.range (pa_kons (pv 4) pa_nil)) rfl rfl (by show ∀ p ∈ _, CapN [Str.ofString "_law_state"] p; decide) (by decide) rfl (by show ([Str.ofString "_law_k", Str.ofString "_law_state"] : List Str).Nodup; decide) (.cons (i := 2) rfl (.inr (.inl rfl)) (by show (some NameKind.cell) ≠ some NameKind.local; decide) (.inl rfl) rfl .nil) (fun C fp s H => pts_nil) (fun C fp s H => (pe_call CP.ok (hr.mono (by decide)) rfl CP.nm CP.kp CP.bd .nil pass0 (pa_kons (pv 1) (pa_kons pe_int pa_nil)))))))
      (pss_cons (ps_set (i := 6) scNames.nd rfl (Or.inl rfl) (pe_lst pa_nil))
      (pss_cons (ps_for PassesOwn.never rfl (pi_range1 rfl N.range (pa_kons pe_int pa_nil)) (pg_name (i := 7) scNames.nd rfl (Or.inr rfl))
      (pss_cons (ps_setC (i := 8) scNames.nd rfl (Or.inl rfl) (pec_compN rfl (pi_range1 rfl N.range (pa_kons (pv 4) pa_nil)) rfl rfl (by show ∀ p ∈ _, CapN [Str.ofString "_law_k", Str.ofString "_law_base", Str.ofString "_law_at"] p; decide) (by decide) rfl (by show ([Str.ofString "_law_j", Str.ofString "_law_k", Str.ofString "_law_base", Str.ofString "_law_at"] : List Str).Nodup; decide) (.cons (i := 7) rfl (.inr (.inl rfl)) (by show (some NameKind.cell) ≠ some NameKind.local; decide) (.inl rfl) rfl (.cons (i := 5) rfl (.inr (.inl rfl)) (by show (some NameKind.cell) ≠ some NameKind.local; decide) (.inl rfl) rfl (.cons (i := 3) rfl (.inr (.inl rfl)) (by show (some NameKind.cell) ≠ some NameKind.local; decide) (.inl rfl) rfl .nil))) (fun C fp s H => pts_nil) (fun C fp s H => (pe_op op_add (pe_ix (r := rIxL K) ix_list (pv 2) (pv 0) (fun _ _ => rfl)) (pe_op op_mul (pe_op op_mul pe_int (pv 1)) (pe_callTy call_int1 (by rfl) N.int PyProof.Rows.Boot.«int» (pa_kons (pe_cmpR op_eq (pv 0) (pv 3) (nomark _)) pa_nil)))))))
      (pss_one (ps_expr (pe_bm PySem.F.plainAttrs_list PySem.F.slot_list_append PySem.F.type_list_append mt_append (pv 6) (pa_kons (pe_bm PySem.F.plainAttrs_str PySem.F.slot_str_join PySem.F.type_str_join mt_join pe_str (pa_kons (pe_of (pec_compN rfl (pi_list (pv 8)) rfl rfl (by show ∀ p ∈ _, CapN [] p; decide) (by decide) rfl (by show ([Str.ofString "_law_sign"] : List Str).Nodup; decide) .nil (fun C fp s H => pts_nil) (fun C fp s H => (pe_ix ix_str pe_str (pe_op op_mod (pv 0) pe_int) (fun _ _ => rfl))))) pa_nil)) pa_nil))))))
      (pss_one (ps_ret (pv 6))))))))))), ?_⟩
    refine rd_seq (rd_asg ⟨by show 12 ≤ sizeLine; decide, fun lw nlw => ?_⟩)
    obtain ⟨g1, e1⟩ := laid (o := .lst (w12.map V.str)) nlw
    dsimp only [gName, List.set_cons_zero, List.set_cons_succ]
    change tSeq _ _ _ _ (upd H lw (.lst (w12.map V.str)))
    generalize upd H lw (.lst (w12.map V.str)) = H1 at g1 e1 ⊢
    refine rd_seq (rd_asg ⟨_, rfl, c, rfl, fun s H2 ns g2 hs2 => ?_⟩)
    dsimp only [gName, List.set_cons_zero, List.set_cons_succ]
    have ns0 : H s = none := by
      cases e : H s with
      | none => rfl
      | some o => rw [g1 _ _ e] at ns; cases ns
    have nlws : lw ≠ s := ne_of_none e1 ns
    have g12 := g1.trans g2
    have e1 := g2 _ _ e1
    have og : ∀ {X Y : Hp}, Grow H X → Off s X Y → Grow H Y := fun {X Y} g o b u e => o _ _ (g _ _ e) (ne_of_none e ns0)
    refine rd_seq (rd_if ⟨_, rfl, s, 4, rfl, hs2, by decide, by decide, fun n H3 n0 n1 o3 hs3 => ⟨rfl, _, rfl, ite2 (fun _ => ?_) fun _ => rd_next ?_⟩⟩)
    · refine rd_seq (rd_asg ⟨_, rfl, s, 12, rfl, hs3, by decide, by decide, fun at_ H4 a0 a1 o4 hs4 => ?_⟩)
      dsimp only [gName, List.set_cons_zero, List.set_cons_succ]
      obtain ⟨j, rfl⟩ : ∃ j : Nat, at_ = (j : Int) := ⟨at_.toNat, by omega⟩
      have hj : j < 12 := by omega
      have e4 := o4 _ _ (o3 _ _ e1 nlws) nlws
      have g4 := og (og g12 o3) o4
      refine rd_ret ⟨_, rfl, _, rfl, _, rfl, lw, _, rfl, SqL.of e4, fun l1 nl1 => ?_⟩
      obtain ⟨g5, e5⟩ := laid (o := .lst (cutV (w12.map V.str) (some (j : Int)) none)) nl1
      generalize upd H4 l1 _ = H5 at g5 e5 ⊢
      refine ⟨_, rfl, _, rfl, _, rfl, lw, _, rfl, SqL.of (g5 _ _ e4), fun l2 nl2 => ?_⟩
      obtain ⟨g6, e6⟩ := laid (o := .lst (cutV (w12.map V.str) none (some (j : Int)))) nl2
      generalize upd H5 l2 _ = H6 at g6 e6 ⊢
      have c1 := cutV_length (w12.map V.str) (some (j : Int)) none
      have c2 := cutV_length (w12.map V.str) none (some (j : Int))
      have c3 : (w12.map V.str).length = 12 := rfl
      refine ⟨l1, l2, _, _, rfl, rfl, g6 _ _ e5, e6, Nat.le_of_lt (small1000 (by omega)), fun l3 nl3 => ⟨_, rfl, l3, _, rfl, SqL.of upd_same, fun p np => ?_⟩⟩
      obtain ⟨g7, _⟩ := laid (o := .lst (cutV (w12.map V.str) (some (j : Int)) none ++ cutV (w12.map V.str) none (some (j : Int)))) nl3
      obtain ⟨g8, e8⟩ := laid (o := .lst (cutV (cutV (w12.map V.str) (some (j : Int)) none ++ cutV (w12.map V.str) none (some (j : Int))) none (some 8))) np
      have gg := g4.trans (g5.trans (g6.trans (g7.trans g8)))
      refine q p (rot j) _ ?_ gg (by rw [e8, rot_cut ⟨j, hj⟩]) (rot_ok ⟨j, hj⟩)
      cases e : H p with
      | none => rfl
      | some o => rw [(g4.trans (g5.trans (g6.trans g7))) _ _ e] at np; cases np
    · dsimp only
      refine rd_seq (rd_asg ⟨_, rfl, s, 8, rfl, hs3, by decide, by decide, fun n2 H4 m0 m1 o4 hs4 => ⟨_, _, rfl, rfl, ?_⟩⟩)
      dsimp only [gName, List.set_cons_zero, List.set_cons_succ]
      refine rd_seq (rd_asg ⟨_, rfl, _, rfl, s, 1 + n2, rfl, hs4, by omega, by omega, fun at_ H5 a0 a1 o5 hs5 => ?_⟩)
      dsimp only [gName, List.set_cons_zero, List.set_cons_succ]
      have g5 := og (og (og g12 o3) o4) o5
      refine rd_seq (rd_asg (rd_comp ⟨_, rfl, _, rfl, by omega, by omega, compB_st (n := (1 + n2).toNat) hs5 (by omega) (fun x => 0 ≤ x ∧ x < 26) (fun i H6 R hi hs6 hR => ?_) fun D bs H6 nD o6 hs6 eD hbl hbs => ?_⟩))
      · exact ⟨_, rfl, s, 26, rfl, hs6, by decide, by decide, fun x H7 x0 x1 o7 hs7 => hR x H7 ⟨x0, x1⟩ o7 hs7⟩
      · dsimp only [gName, List.set_cons_zero, List.set_cons_succ]
        have g6 := og g5 o6
        refine rd_seq (rd_asg ⟨by show 0 ≤ sizeLine; decide, fun p np => ?_⟩)
        dsimp only [gName, List.set_cons_zero, List.set_cons_succ]
        obtain ⟨g7, e7⟩ := laid (o := .lst []) np
        have np0 : H p = none := by
          cases e : H p with
          | none => rfl
          | some o => rw [g6 _ _ e] at np; cases np
        have eD7 := g7 _ _ eD
        have npD : p ≠ D := fun z => by rw [z, eD] at np; cases np
        have g67 := g6.trans g7
        generalize upd H6 p _ = H7 at g7 e7 eD7 g67 ⊢
        have hsz : ((1 + n2).toNat : Int) = 1 + n2 := by omega
        refine rd_seq ⟨8, rfl, by decide, by decide, for_range (n := 8) (NmI H c lw s D p at_ (1 + n2) bs) ⟨none, none, rfl, g67, eD7, e7⟩ (fun k σ H8 hk hh => ?_) fun σ H8 hh => ?_⟩
        · obtain ⟨v7, v8, rfl, g8, eD8, ep8⟩ := hh
          dsimp only [gName, List.set_cons_zero, List.set_cons_succ]
          rw [Int.zero_add]
          refine rd_seq (rd_asg (rd_comp ⟨_, rfl, _, rfl, by omega, by omega, compB_ri (n := (1 + n2).toNat) (fun j => V.int (sgE bs at_ k j)) (by omega) (fun j H9 R hj g9 hR => ?_) fun D2 nD2 => ?_⟩))
          · rw [Int.zero_add]
            have hjb : j < bs.length := by omega
            refine ⟨_, rfl, _, rfl, D, _, _, .int bs[j], rfl, rfl, SqL.of (g9 _ _ eD8), atI_nat (by rw [List.getElem?_map, List.getElem?_eq_getElem hjb]; rfl), _, rfl, _, _, rfl, rfl, .inl ⟨by decide, by decide⟩, _, rfl, _, rfl, rfl, .inr ⟨_, rfl, _, _, rfl, rfl, .inl ⟨by omega, by omega⟩, _, _, rfl, rfl, ?_⟩⟩
            have e9 : bs[j] + 3 * (k : Int) * (if decide (V.int (j : Int) = V.int at_) = true then 1 else 0) = sgE bs at_ k j := by
              unfold sgE
              rw [List.getD_eq_getElem?_getD, List.getElem?_eq_getElem hjb]
              by_cases z : (j : Int) = at_
              · rw [if_pos z, if_pos (decide_eq_true (congrArg V.int z))]; rfl
              · rw [if_neg z, if_neg (fun y => z (V.int.inj (of_decide_eq_true y)))]; rfl
            rw [e9]
            exact hR
          · rw [show ((List.range (1 + n2).toNat).map fun j => V.int (sgE bs at_ k j)) = ((List.range (1 + n2).toNat).map (sgE bs at_ k)).map V.int from by rw [List.map_map]; rfl]
            obtain ⟨g9, e9⟩ := laid (o := .lst (((List.range (1 + n2).toNat).map (sgE bs at_ k)).map V.int)) nD2
            dsimp only [gName, List.set_cons_zero, List.set_cons_succ]
            generalize upd H8 D2 _ = H9 at g9 e9 ⊢
            have hzl : ((List.range (1 + n2).toNat).map (sgE bs at_ k)).length < 1000 := by rw [List.length_map, List.length_range]; omega
            refine rd_expr (rd_bm ⟨_, rfl, .inl ⟨rfl, _, SqL.of (g9 _ _ ep8)⟩, rd_cons (rd_bm ⟨rfl, rd_cons (rd_comp ⟨_, rfl, D2, rfl, ⟨_, SqL.of e9⟩, compB_tx gZ hzl e9 (fun z H2 R hR => ?_) fun D3 nD3 => ?_⟩)⟩)⟩)
            · exact ⟨_, rfl, _, _, rfl, rfl, (by show (0 : Int) < 26; decide), letZ, z % 26, _, rfl, rfl, by decide, let_at (Int.emod_nonneg _ (by decide)) (Int.emod_lt_of_pos _ (by decide)), hR⟩
            · obtain ⟨ga, ea⟩ := laid (o := .lst ((((List.range (1 + n2).toNat).map (sgE bs at_ k)).map gZ).map V.str)) nD3
              generalize upd H9 D3 _ = Ha at ga ea ⊢
              have epa := ga _ _ (g9 _ _ ep8)
              have eDa := ga _ _ (g9 _ _ eD8)
              refine ⟨Str.ofString "", D3, _, rfl, rfl, ea, ?_, p, _, _, rfl, rfl, epa, ?_, _, _, rfl, fun b o e => ?_, ?_, ?_⟩
              · rw [gZ_sum, show (Str.ofString "").length = 0 from rfl, Nat.mul_zero]; exact Nat.le_trans (Nat.le_of_lt hzl) (by decide)
              · rw [List.length_map, List.length_map, List.length_range]; exact small1000 (by omega)
              · rw [upd_ne (ne_of_none e np0)]; exact ga _ _ (g9 _ _ (g8 _ _ e))
              · rw [upd_ne (Ne.symm npD)]; exact eDa
              · rw [upd_same, List.range_succ, List.map_append, List.map_append]; rfl
        · obtain ⟨v7, v8, rfl, g8, eD8, ep8⟩ := hh
          dsimp only
          exact rd_ret ⟨_, rfl, q p _ _ np0 g8 ep8 (nmK_ok (by omega) (by omega) a0 a1)⟩
end
end Mine
namespace Mine
open PySem L2
open PySem.W PySem.W.KIN PySem.NumText
def spName (K : PySem.W.Frag) : Sp := fun vs H Q _ => ∃ v : V, vs = [v] ∧ ((∃ x : Str, v = .str x ∧ x.length < sizeLine ∧ ∀ H', Grow H H' → Q (.bl (hasB x letZ 8)) H') ∨ ∃ n : String, TyOf K H v (.type n) ∧ PySem.W.kitOne K (.type n) (.type "str") = some false ∧ Q (.bl false) H)
section
variable {P : Program} {w : World} {K : PySem.W.Frag} {mg : Str → Option Value} {base : Heap}
theorem scName : FnScope ["thing"] ["thing"] (defScope sName) := ⟨rfl, rfl, rfl, by decide +kernel, rfl, by decide +kernel, by decide +kernel⟩
theorem ok_name {f f1 : Addr} {fd fd1 : FuncData} (F : Fun K "is_name" "is_name" sName f fd) (N : Free mg) (C : Con mg) (CH : Cal P w K mg base "has_only" 1 ["text", "signs", "most"] spHas f1 fd1) : FnOk P w K mg base CX0 2 f fd ["thing"] (spName K) := by
  obtain ⟨t1, c1⟩ := C.letters
  obtain ⟨t2, c2⟩ := C.eight
  refine F.ok (k := 1) scName (fun vs H Q E h => ?_) (fun cdv A outer s H vs Q E hr h => ?_)
  · obtain ⟨v, rfl, _⟩ := h
    rfl
  · obtain ⟨v, rfl, h⟩ := h
    refine ⟨_, pss_one (ps_ret (pe_and (pe_callB call_isinst (by rfl) N.isinstance PyProof.Rows.Boot.«isinstance» (pa_cons (pv 0) (pa_cons (pe_bltn (v := .ty "str") (by rfl) N.str PyProof.Rows.Boot.«str» rfl) pa_nil))) (pe_one (pe_call CH.ok hr rfl CH.nm CH.kp CH.bd .nil pass0 (pa_cons (pv 0) (pa_cons (pe_glob (v := .str letZ) (by rfl) c1 ⟨_, rfl⟩) (pa_cons (pe_glob (v := .int 8) (by rfl) c2 ⟨_, rfl⟩) pa_nil))))))), ?_⟩
    rcases h with ⟨x, rfl, hl, hq⟩ | ⟨n, ty, e, q⟩
    · exact ⟨_, rfl, .str x, "str", _, true, rfl, .str x, by rfl, _, rfl, iteT ⟨_, rfl, x, letZ, 8, rfl, hl, hq⟩⟩
    · exact ⟨_, rfl, v, "str", _, false, rfl, ty, e, _, rfl, iteF q⟩
end
def negX (x : Str) : Bool := decide (x.cps.toList.head? = some 45)
def figs (x : Str) : List Nat := if negX x = true then x.cps.toList.tail else x.cps.toList
def valI (x : Str) : Int := if negX x = true then -((digitsVal (figs x) : Nat) : Int) else ((digitsVal (figs x) : Nat) : Int)
theorem back_id : ∀ {cs : List Nat}, AllDigits cs → (cs.map Char.ofNat).map Char.toNat = cs
  | [], _ => rfl
  | c :: r, h => by
    rw [List.map_cons, List.map_cons, back_id h.tail]
    have hc := h.head
    have : ∀ d : Nat, 48 ≤ d → d ≤ 57 → (Char.ofNat d).toNat = d := by
      intro d h1 h2
      have : d = 48 ∨ d = 49 ∨ d = 50 ∨ d = 51 ∨ d = 52 ∨ d = 53 ∨ d = 54 ∨ d = 55 ∨ d = 56 ∨ d = 57 := by omega
      rcases this with h | h | h | h | h | h | h | h | h | h <;> subst h <;> rfl
    rw [this c hc.1 hc.2]
def shown (cs : List Nat) : List Nat := (Nat.toDigits 10 (digitsVal cs)).map Char.toNat
theorem shown_plain {c : Nat} {r : List Nat} (h : AllDigits (c :: r)) (hc : c ≠ 48) : shown (c :: r) = c :: r := by
  unfold shown
  have hh := h.head
  rw [toDigits_digitsVal r.length (c :: r) rfl h (.inr ⟨c, r, rfl, by omega⟩)]
  exact back_id h
theorem shown_zero : shown [48] = [48] := by decide
theorem shown_short : ∀ {r : List Nat}, AllDigits r → (shown r).length ≤ r.length + (if r = [] then 1 else 0)
  | [], _ => by decide
  | c :: r, h => by
    by_cases hc : c = 48
    · subst hc
      have e : shown (48 :: r) = shown r := by unfold shown; rw [digitsVal_zero]
      rw [e]
      have := shown_short h.tail
      by_cases hr : r = []
      · subst hr; decide
      · rw [if_neg hr] at this
        rw [if_neg (by simp), List.length_cons]
        omega
    · rw [shown_plain h hc, if_neg (by simp)]
      exact Nat.le_refl _
theorem shown_not {r : List Nat} (h : AllDigits (48 :: r)) (hr : r ≠ []) : shown (48 :: r) ≠ 48 :: r := fun z => by
  have e : shown (48 :: r) = shown r := by unfold shown; rw [digitsVal_zero]
  rw [e] at z
  have := shown_short h.tail
  rw [z, if_neg hr, List.length_cons] at this
  omega
theorem signs_pos (m : Nat) : (Str.ofString (toString ((m : Nat) : Int))).cps.toList = (Nat.toDigits 10 m).map Char.toNat := signs_num m
theorem signs_negS (m : Nat) (h : 0 < m) : (Str.ofString (toString (-((m : Nat) : Int)))).cps.toList = 45 :: (Nat.toDigits 10 m).map Char.toNat := by
  obtain ⟨k, rfl⟩ : ∃ k, m = k + 1 := ⟨m - 1, by omega⟩
  rw [PyProof.Rows.signs_ofString]
  show (toString (Int.negSucc k)).toList.map Char.toNat = _
  show ("-" ++ Nat.repr (k + 1)).toList.map Char.toNat = _
  rw [String.toList_append, List.map_append, Nat.toList_repr]
  rfl
theorem plain_iff {x : Str} (h : AllDigits (figs x)) (h1 : figs x ≠ []) : Str.ofString (toString (valI x)) = x ↔ ¬ ((figs x).head? = some 48 ∧ x.cps.toList ≠ [48]) := by
  cases hn : negX x with
  | false =>
    have ef : figs x = x.cps.toList := by unfold figs; rw [hn]; rfl
    have ev : valI x = ((digitsVal (figs x) : Nat) : Int) := by unfold valI; rw [hn]; rfl
    have e : Str.ofString (toString (valI x)) = x ↔ shown (figs x) = figs x := by
      rw [ev]
      constructor
      · intro z
        have := congrArg (fun y : Str => y.cps.toList) z
        simp only [signs_pos] at this
        rw [← ef] at this
        exact this
      · intro z
        refine str_ext ?_
        rw [signs_pos, ← ef]
        exact z
    rw [e]
    rw [← ef]
    generalize figs x = cs at *
    cases cs with
    | nil => exact absurd rfl h1
    | cons c r =>
      by_cases hc : c = 48
      · subst hc
        by_cases hr : r = []
        · subst hr
          exact ⟨fun _ z => z.2 rfl, fun _ => shown_zero⟩
        · refine ⟨fun z => absurd z (shown_not h hr), fun z => absurd ⟨rfl, fun w => hr ?_⟩ z⟩
          injection w
      · refine ⟨fun _ z => hc ?_, fun _ => shown_plain h hc⟩
        injection z.1
  | true =>
    have hh : x.cps.toList.head? = some 45 := of_decide_eq_true hn
    have ef : figs x = x.cps.toList.tail := by unfold figs; rw [hn]; rfl
    have ev : valI x = -((digitsVal (figs x) : Nat) : Int) := by unfold valI; rw [hn]; rfl
    have ex : x.cps.toList = 45 :: figs x := by
      rw [ef]
      cases q : x.cps.toList with
      | nil => rw [q] at hh; cases hh
      | cons a t => rw [q] at hh; cases hh; rfl
    have r2 : x.cps.toList ≠ [48] := by rw [ex]; intro z; injection z with z _; cases z
    have e : Str.ofString (toString (valI x)) = x ↔ (0 < digitsVal (figs x) ∧ shown (figs x) = figs x) := by
      rw [ev]
      by_cases hm : 0 < digitsVal (figs x)
      · constructor
        · intro z
          have := congrArg (fun y : Str => y.cps.toList) z
          simp only [signs_negS _ hm] at this
          rw [ex] at this
          injection this with _ this
          exact ⟨hm, this⟩
        · intro z
          refine str_ext ?_
          rw [signs_negS _ hm, ex]
          exact congrArg (45 :: ·) z.2
      · have hz : digitsVal (figs x) = 0 := by omega
        refine ⟨fun z => ?_, fun z => absurd z.1 hm⟩
        have := congrArg (fun y : Str => y.cps.toList) z
        rw [hz] at this
        have t0 : (Str.ofString (toString (-((0 : Nat) : Int)))).cps.toList = [48] := by decide
        rw [t0, ex] at this
        injection this with this _
        cases this
    rw [e]
    generalize figs x = cs at *
    cases cs with
    | nil => exact absurd rfl h1
    | cons c r =>
      by_cases hc : c = 48
      · subst hc
        refine ⟨fun z => ?_, fun z => absurd ⟨rfl, r2⟩ z⟩
        by_cases hr : r = []
        · subst hr; exact absurd z.1 (by decide)
        · exact absurd z.2 (shown_not h hr)
      · refine ⟨fun _ z => hc ?_, fun _ => ⟨?_, shown_plain h hc⟩⟩
        · injection z.1
        · have := h.head
          exact digitsVal_pos (by omega)
theorem starts_c (x : Str) (c : Nat) : Txt.startswith x ⟨#[c]⟩ = decide (x.cps.toList.head? = some c) := by
  unfold Txt.startswith
  rw [Bool.eq_iff_iff, decide_eq_true_eq, List.head?_eq_getElem?]
  rw [Bool.and_eq_true, decide_eq_true_eq]
  exact StrLaws.subAt_one x c 0
theorem sl_tail {x : Str} (h : 1 ≤ x.length) : (Txt.slice x (some 1) none).cps.toList = x.cps.toList.tail := by
  rw [PyProof.Rows.slice_from_eq (x := x) (i := 1) (b := x.length) (by decide) (by omega) rfl]
  have e : x.length = x.cps.toList.length := by simp [Str.length]
  show (x.cps.toList.drop 1).take _ = _
  rw [List.take_of_length_le (by rw [List.length_drop]; omega), List.drop_one]
theorem starts_minus (x : Str) : Txt.startswith x (Str.ofString "-") = negX x := by
  rw [show Str.ofString "-" = ⟨#[45]⟩ from by decide]
  exact starts_c x 45
theorem starts_nought (x : Str) : Txt.startswith x (Str.ofString "0") = decide (x.cps.toList.head? = some 48) := by
  rw [show Str.ofString "0" = ⟨#[48]⟩ from by decide]
  exact starts_c x 48
def figS (x : Str) : Str := ⟨(figs x).toArray⟩
theorem figS_neg {x : Str} (h : negX x = true) : Txt.slice x (some 1) none = figS x := by
  refine str_ext ?_
  have hl : 1 ≤ x.length := by
    have z := of_decide_eq_true h
    have e : x.length = x.cps.toList.length := by simp [Str.length]
    cases q : x.cps.toList with
    | nil => rw [q] at z; cases z
    | cons a t => rw [e, q, List.length_cons]; omega
  rw [sl_tail hl]
  show _ = figs x
  unfold figs
  rw [h]; rfl
theorem figS_pos {x : Str} (h : negX x = false) : x = figS x := by
  refine str_ext ?_
  show _ = figs x
  unfold figs
  rw [h]; rfl
def goodF (x : Str) : Bool := hasB (figS x) figZ 12
theorem figS_len (x : Str) : (figS x).length = (figs x).length := by
  show (figs x).toArray.size = _
  rw [List.size_toArray]
theorem good_of {x : Str} (h : goodF x = true) : AllDigits (figs x) ∧ figs x ≠ [] ∧ (figs x).length ≤ 12 := by
  unfold goodF hasB at h
  rw [Bool.and_eq_true, Bool.and_eq_true] at h
  obtain ⟨h1, h2, h3⟩ := h
  have h1 := of_decide_eq_true h1
  have h2 := of_decide_eq_true h2
  rw [figS_len] at h1 h2
  refine ⟨fun c hc => ?_, fun z => ?_, by omega⟩
  · have := List.all_eq_true.mp h3 c hc
    have m : c ∈ figZ.cps.toList := of_decide_eq_true this
    rw [show figZ.cps.toList = [48, 49, 50, 51, 52, 53, 54, 55, 56, 57] from by decide] at m
    simp only [List.mem_cons, List.not_mem_nil, or_false] at m
    omega
  · rw [z] at h1
    exact absurd h1 (by decide)
theorem len_figs {x : Str} (h : (figs x).length ≤ 12) : x.length ≤ 640 := by
  have e : x.length = x.cps.toList.length := by simp [Str.length]
  unfold figs at h
  split at h
  · rw [List.length_tail] at h; omega
  · omega
theorem int_of {x : Str} (h : goodF x = true) : PySem.intText? x = some (valI x) := by
  obtain ⟨d, n, l⟩ := good_of h
  have hl := len_figs l
  cases q : negX x with
  | false =>
    have ef : figs x = x.cps.toList := by unfold figs; rw [q]; rfl
    have := intText_digits (x := x) (ef ▸ d) (ef ▸ n) (by omega)
    rw [this]
    unfold valI
    rw [q, ef]; rfl
  | true =>
    have hh : x.cps.toList.head? = some 45 := of_decide_eq_true q
    have ef : figs x = x.cps.toList.tail := by unfold figs; rw [q]; rfl
    have ex : x.cps.toList = 45 :: figs x := by
      rw [ef]
      cases r : x.cps.toList with
      | nil => rw [r] at hh; cases hh
      | cons a t => rw [r] at hh; cases hh; rfl
    rw [intText_neg ex d n (by omega)]
    unfold valI
    rw [q]; rfl
def numV (x : Str) (lo hi : Int) : V := if (goodF x = true ∧ Str.ofString (toString (valI x)) = x) ∧ (lo ≤ valI x ∧ valI x ≤ hi) then .int (valI x) else .non
def spNumber : Sp := fun vs H Q _ => ∃ (x : Str) (lo hi : Int), vs = [.str x, .int lo, .int hi] ∧ x.length < sizeLine ∧ ∀ H', Grow H H' → Q (numV x lo hi) H'
section
variable {P : Program} {w : World} {K : PySem.W.Frag} {mg : Str → Option Value} {base : Heap}
theorem scNumber : FnScope ["text", "low", "high", "figures", "number"] ["text", "low", "high"] (defScope sNumber) := ⟨rfl, rfl, rfl, by decide +kernel, rfl, by decide +kernel, by decide +kernel⟩
theorem ok_number {f f1 : Addr} {fd fd1 : FuncData} (F : Fun K "number_of" "number_of" sNumber f fd) (N : Free mg) (C : Con mg) (CH : Cal P w K mg base "has_only" 1 ["text", "signs", "most"] spHas f1 fd1) : FnOk P w K mg base CX0 2 f fd ["text", "low", "high"] spNumber := by
  obtain ⟨t1, c1⟩ := C.figures
  obtain ⟨t2, c2⟩ := C.twelve
  refine F.ok (k := 1) scNumber (fun vs H Q E h => ?_) (fun cdv A outer s H vs Q E hr h => ?_)
  · obtain ⟨x, lo, hi, rfl, _⟩ := h
    rfl
  · obtain ⟨x, lo, hi, rfl, hl, hq⟩ := h
    refine ⟨_, pss_cons (ps_set (i := 3) scNumber.nd rfl (Or.inl rfl) (pe_ifExp (pt_val (pe_bm PySem.F.plainAttrs_str PySem.F.slot_str_startswith PySem.F.type_str_startswith mt_startswith (pv 0) (pa_cons pe_str pa_nil))) (pe_slice sl_str (pv 0) (po_some pe_int) po_none) (pv 0)))
      (pss_cons (ps_if (pt_not (pt_val (pe_call CH.ok hr rfl CH.nm CH.kp CH.bd .nil pass0 (pa_cons (pv 3) (pa_cons (pe_glob (v := .str figZ) (by rfl) c1 ⟨_, rfl⟩) (pa_cons (pe_glob (v := .int 12) (by rfl) c2 ⟨_, rfl⟩) pa_nil)))))) (pss_one (ps_ret pe_non)) pss_nil)
      (pss_cons (ps_if (PW.pt (pw_and (pt_val (pe_bm PySem.F.plainAttrs_str PySem.F.slot_str_startswith PySem.F.type_str_startswith mt_startswith (pv 3) (pa_cons pe_str pa_nil))) (pw_and1 (pt_cmpR op_ne (pv 0) pe_str (nomark _))))) (pss_one (ps_ret pe_non)) pss_nil)
      (pss_cons (ps_set (i := 4) scNumber.nd rfl (Or.inl rfl) (pe_callTy call_int_text (by rfl) N.int PyProof.Rows.Boot.«int» (pa_cons (pv 0) pa_nil)))
      (pss_one (ps_ret (pe_ifExp (pt_chain op_le op_le (pv 1) (pv 4) (pv 2)) (pv 4) pe_non)))))), ?_⟩
    have hfl : (figS x).length < sizeLine := by
      refine Nat.lt_of_le_of_lt ?_ hl
      rw [figS_len]
      have e : x.length = x.cps.toList.length := by simp [Str.length]
      unfold figs
      split
      · rw [List.length_tail]; omega
      · omega
    refine ⟨_, rfl, rfl, x, _, rfl, rfl, _, rfl, ?_⟩
    rw [starts_minus]
    refine ite2 (fun h1 => ⟨_, rfl, _, rfl, x, rfl, Nat.le_of_lt hl, ?_⟩) fun h1 => ⟨_, rfl, ?_⟩
    · have e : (Txt.slice x (some 1) none) = figS x := figS_neg h1
      have eb : hasB (Txt.slice x (some 1) none) figZ 12 = goodF x := congrArg (fun z => hasB z figZ 12) e
      have eh : (Txt.slice x (some 1) none).cps.toList.head? = (figs x).head? := congrArg (fun z : Str => z.cps.toList.head?) e
      refine ⟨_, rfl, (Txt.slice x (some 1) none), figZ, 12, rfl, (by rw [figS_neg h1]; exact hfl), fun H1 g1 => ⟨_, rfl, ?_⟩⟩
      have hq := hq H1 g1
      rw [eb]
      cases hg : goodF x with
      | false =>
        refine iteT ?_
        have : numV x lo hi = .non := if_neg fun z => by rw [hg] at z; cases z.1.1
        rw [this] at hq
        exact hq
      | true =>
        refine iteF ?_
        obtain ⟨gd, gn, gl⟩ := good_of hg
        have pi := plain_iff gd gn
        have no : ¬ Str.ofString (toString (valI x)) = x → Q .non H1 := fun z => by
          have : numV x lo hi = .non := if_neg fun y => z y.1.2
          rw [this] at hq
          exact hq
        have yes : Str.ofString (toString (valI x)) = x → ∀ b : Bool, (b = true ↔ (lo ≤ valI x ∧ valI x ≤ hi)) → Q (if b = true then .int (valI x) else .non) H1 := fun z b hb => by
          have : numV x lo hi = if b = true then .int (valI x) else .non := by
            unfold numV
            cases b with
            | true => rw [if_pos ⟨⟨hg, z⟩, hb.mp rfl⟩]; rfl
            | false => rw [if_neg fun y => by have := hb.mpr y.2; cases this]; rfl
          rw [this] at hq
          exact hq
        refine ⟨_, rfl, rfl, (Txt.slice x (some 1) none), _, rfl, rfl, _, rfl, ?_⟩
        rw [starts_nought, eh]
        have z0 : x = Str.ofString "0" ↔ x.cps.toList = [48] := ⟨fun z => by rw [z]; decide, fun z => str_ext (z.trans (by decide))⟩
        refine ite2 (fun h2 => ⟨_, rfl, rfl, _, rfl, ite2 (fun h3 => ?_) fun h3 => ?_⟩) fun h2 => iteF ?_
        · refine no fun z => pi.mp z ⟨of_decide_eq_true h2, fun w => ?_⟩
          rw [z0.mpr w] at h3
          exact absurd h3 (by decide)
        · have hp : Str.ofString (toString (valI x)) = x := pi.mpr fun z => h3 (by
            rw [Bool.not_eq_true', decide_eq_false_iff_not]
            intro w
            injection w with w
            exact z.2 (z0.mp w))
          have yes := yes hp
          refine ⟨_, rfl, x, valI x, rfl, int_of hg, len_figs gl, ?_⟩
          refine ⟨_, rfl, _, rfl, _, _, rfl, rfl, _, rfl, ite2 (fun h4 => ⟨_, rfl, _, _, rfl, rfl, _, rfl, ite2 (fun h5 => ⟨_, rfl, ?_⟩) fun h5 => ?_⟩) fun h4 => ⟨_, rfl, iteF ?_⟩⟩
          · exact yes true ⟨fun _ => ⟨of_decide_eq_true h4, of_decide_eq_true h5⟩, fun _ => rfl⟩
          · exact yes false ⟨(fun z => by cases z), fun z => absurd (decide_eq_true z.2) h5⟩
          · exact yes false ⟨(fun z => by cases z), fun z => absurd (decide_eq_true z.1) h4⟩
        · have hp : Str.ofString (toString (valI x)) = x := pi.mpr fun z => h2 (decide_eq_true z.1)
          have yes := yes hp
          refine ⟨_, rfl, x, valI x, rfl, int_of hg, len_figs gl, ?_⟩
          refine ⟨_, rfl, _, rfl, _, _, rfl, rfl, _, rfl, ite2 (fun h4 => ⟨_, rfl, _, _, rfl, rfl, _, rfl, ite2 (fun h5 => ⟨_, rfl, ?_⟩) fun h5 => ?_⟩) fun h4 => ⟨_, rfl, iteF ?_⟩⟩
          · exact yes true ⟨fun _ => ⟨of_decide_eq_true h4, of_decide_eq_true h5⟩, fun _ => rfl⟩
          · exact yes false ⟨(fun z => by cases z), fun z => absurd (decide_eq_true z.2) h5⟩
          · exact yes false ⟨(fun z => by cases z), fun z => absurd (decide_eq_true z.1) h4⟩
    · have e : x = figS x := figS_pos (Bool.eq_false_iff.mpr h1)
      have eb : hasB x figZ 12 = goodF x := congrArg (fun z => hasB z figZ 12) e
      have eh : x.cps.toList.head? = (figs x).head? := congrArg (fun z : Str => z.cps.toList.head?) e
      refine ⟨_, rfl, x, figZ, 12, rfl, hl, fun H1 g1 => ⟨_, rfl, ?_⟩⟩
      have hq := hq H1 g1
      rw [eb]
      cases hg : goodF x with
      | false =>
        refine iteT ?_
        have : numV x lo hi = .non := if_neg fun z => by rw [hg] at z; cases z.1.1
        rw [this] at hq
        exact hq
      | true =>
        refine iteF ?_
        obtain ⟨gd, gn, gl⟩ := good_of hg
        have pi := plain_iff gd gn
        have no : ¬ Str.ofString (toString (valI x)) = x → Q .non H1 := fun z => by
          have : numV x lo hi = .non := if_neg fun y => z y.1.2
          rw [this] at hq
          exact hq
        have yes : Str.ofString (toString (valI x)) = x → ∀ b : Bool, (b = true ↔ (lo ≤ valI x ∧ valI x ≤ hi)) → Q (if b = true then .int (valI x) else .non) H1 := fun z b hb => by
          have : numV x lo hi = if b = true then .int (valI x) else .non := by
            unfold numV
            cases b with
            | true => rw [if_pos ⟨⟨hg, z⟩, hb.mp rfl⟩]; rfl
            | false => rw [if_neg fun y => by have := hb.mpr y.2; cases this]; rfl
          rw [this] at hq
          exact hq
        refine ⟨_, rfl, rfl, x, _, rfl, rfl, _, rfl, ?_⟩
        rw [starts_nought, eh]
        have z0 : x = Str.ofString "0" ↔ x.cps.toList = [48] := ⟨fun z => by rw [z]; decide, fun z => str_ext (z.trans (by decide))⟩
        refine ite2 (fun h2 => ⟨_, rfl, rfl, _, rfl, ite2 (fun h3 => ?_) fun h3 => ?_⟩) fun h2 => iteF ?_
        · refine no fun z => pi.mp z ⟨of_decide_eq_true h2, fun w => ?_⟩
          rw [z0.mpr w] at h3
          exact absurd h3 (by decide)
        · have hp : Str.ofString (toString (valI x)) = x := pi.mpr fun z => h3 (by
            rw [Bool.not_eq_true', decide_eq_false_iff_not]
            intro w
            injection w with w
            exact z.2 (z0.mp w))
          have yes := yes hp
          refine ⟨_, rfl, x, valI x, rfl, int_of hg, len_figs gl, ?_⟩
          refine ⟨_, rfl, _, rfl, _, _, rfl, rfl, _, rfl, ite2 (fun h4 => ⟨_, rfl, _, _, rfl, rfl, _, rfl, ite2 (fun h5 => ⟨_, rfl, ?_⟩) fun h5 => ?_⟩) fun h4 => ⟨_, rfl, iteF ?_⟩⟩
          · exact yes true ⟨fun _ => ⟨of_decide_eq_true h4, of_decide_eq_true h5⟩, fun _ => rfl⟩
          · exact yes false ⟨(fun z => by cases z), fun z => absurd (decide_eq_true z.2) h5⟩
          · exact yes false ⟨(fun z => by cases z), fun z => absurd (decide_eq_true z.1) h4⟩
        · have hp : Str.ofString (toString (valI x)) = x := pi.mpr fun z => h2 (decide_eq_true z.1)
          have yes := yes hp
          refine ⟨_, rfl, x, valI x, rfl, int_of hg, len_figs gl, ?_⟩
          refine ⟨_, rfl, _, rfl, _, _, rfl, rfl, _, rfl, ite2 (fun h4 => ⟨_, rfl, _, _, rfl, rfl, _, rfl, ite2 (fun h5 => ⟨_, rfl, ?_⟩) fun h5 => ?_⟩) fun h4 => ⟨_, rfl, iteF ?_⟩⟩
          · exact yes true ⟨fun _ => ⟨of_decide_eq_true h4, of_decide_eq_true h5⟩, fun _ => rfl⟩
          · exact yes false ⟨(fun z => by cases z), fun z => absurd (decide_eq_true z.2) h5⟩
          · exact yes false ⟨(fun z => by cases z), fun z => absurd (decide_eq_true z.1) h4⟩
end
end Mine
namespace Mine
open PySem L2
def spAreKeys : Sp := fun vs H Q _ => ∃ (a : Addr) (ks : List Str), vs = [.ref a] ∧ H a = some (.lst (ks.map V.str)) ∧ 1 ≤ ks.length ∧ ks.length ≤ 8 ∧ ks.Nodup ∧ (∀ k ∈ ks, hasB k letZ 8 = true ∧ k.length < sizeLine) ∧ ∀ H', Grow H H' → Q (.bl true) H'
theorem tcomp_names {K : PySem.W.Frag} {E : XK} {σ : St} {H : Hp} {Q : VK} {a : Addr} {ks : List Str} (e0 : σ[0]? = some (some (.ref a))) (ha : H a = some (.lst (ks.map V.str))) (hk : ∀ k ∈ ks, hasB k letZ 8 = true ∧ k.length < sizeLine) (hl : ks.length ≤ 8)
    (hq : ∀ (D : Addr) (H' : Hp), H D = none → Grow H H' → H' D = some (.lst ((List.replicate ks.length true).map V.bl)) → Q (.ref D) H') :
    tComp (iList K (tVar 0)) [] (fun _ H Q => Q true H) (tCall (spName K) [] E (tCons (tVar 0) tNil)) σ H Q := by
  refine ⟨_, e0, a, rfl, ⟨_, SqL.of ha⟩, fun D nD => comp_list (K := K) (a := a) (xs := ks.map V.str) (sub := []) (tt := fun _ H Q => Q true H) (te := tCall (spName K) [] E (tCons (tVar 0) tNil)) (Q := Q) (σ := σ)
    (fun i ys H2 => ys = (List.replicate i true).map V.bl ∧ Grow H H2 ∧ H2 D = some (.lst ys)) ⟨rfl, Grow.new nD, upd_same⟩ (fun i ys H2 _ hh => ?_) (fun i x ys H2 hi hh => ?_) fun ys H2 hh => ?_⟩
  · exact SqL.of (hh.2.1 _ _ ha)
  · obtain ⟨rfl, g, hD⟩ := hh
    rw [List.getElem?_map] at hi
    cases ek : ks[i]? with
    | none => rw [ek] at hi; cases hi
    | some k =>
      rw [ek] at hi
      cases hi
      have hil := (List.getElem?_eq_some_iff.mp ek).1
      obtain ⟨k1, k2⟩ := hk k (List.mem_of_getElem? ek)
      refine iteT ⟨_, rfl, .str k, rfl, .inl ⟨k, rfl, k2, fun H3 g3 => ⟨g3 _ _ hD, ?_, ?_, ?_, ?_⟩⟩⟩
      · rw [List.length_map, List.length_replicate]
        exact small1000 (by omega)
      · rw [k1, List.replicate_succ', List.map_append]; rfl
      · intro b o e
        rw [upd_ne (ne_of_none e nD)]
        exact g3 _ _ (g _ _ e)
      · exact upd_same
  · obtain ⟨rfl, g, hD⟩ := hh
    rw [List.length_map] at hD
    exact hq D H2 nD g hD
section
variable {P : Program} {w : World} {K : PySem.W.Frag} {mg : Str → Option Value} {base : Heap}
theorem scAreKeys : FnScope ["thing"] ["thing"] (defScope sAreKeys) := ⟨rfl, rfl, rfl, by decide +kernel, rfl, by decide +kernel, by decide +kernel⟩
theorem ok_areKeys {f f1 : Addr} {fd : FuncData} (F : Fun K "are_keys" "are_keys" sAreKeys f fd) (N : Free mg) (C : Con mg) {fd1 : FuncData} (CN : Cal P w K mg base "is_name" 2 ["thing"] (spName K) f1 fd1) : FnOk P w K mg base CX0 3 f fd ["thing"] spAreKeys := by
  obtain ⟨t1, c1⟩ := C.keys
  refine F.ok (k := 2) scAreKeys (fun vs H Q E h => ?_) (fun cdv A outer s H vs Q E hr h => ?_)
  · obtain ⟨a, ks, rfl, _⟩ := h
    rfl
  · obtain ⟨a, ks, rfl, ha, k1, k8, nd, hk, hq⟩ := h
    have hu := hu_of hr
    refine ⟨_, (pss_cons (ps_if (PW.pt (pw_or (pt_not (pt_val (pe_callB call_isinst (by rfl) N.isinstance PyProof.Rows.Boot.«isinstance» (pa_cons (pv 0) (pa_cons (pe_bltn (v := .ty "list") (by rfl) N.list PyProof.Rows.Boot.«list» rfl) pa_nil))))) (pw_or1 (pt_not (pt_chain op_le op_le pe_int (pe_callB call_len_seq (by rfl) N.len PySem.boot_len (pa_cons (pv 0) pa_nil)) (pe_glob (v := .int 8) (by rfl) c1 ⟨_, rfl⟩)))))) (pss_one (ps_ret pe_bl)) pss_nil)
      (pss_one (ps_ret (pe_and (pe_callB (call_allB rfl) (by rfl) N.all PyProof.Rows.Boot.«all» (pa_cons (pe_of (pec_compN rfl (pi_list (pv 0)) rfl rfl (by show ∀ p ∈ _, CapN [] p; decide) (by decide) rfl (by show ([Str.ofString "key"] : List Str).Nodup; decide) .nil (fun C fp s H => pts_nil) (fun C fp s H => (pe_call CN.ok (hr.mono (by decide)) rfl CN.nm CN.kp CN.bd .nil pass0 (pa_cons (pv 0) pa_nil))))) pa_nil)) (pe_one (pe_cmpR op_eq (pe_callB call_lenS (by rfl) N.len PySem.boot_len (pa_cons (pe_callTy (call_setS rfl) (by rfl) N.set PyProof.Rows.Boot.«set» (pa_cons (pv 0) pa_nil)) pa_nil)) (pe_callB call_len_seq (by rfl) N.len PySem.boot_len (pa_cons (pv 0) pa_nil)) (nomark _))))))), ?_⟩
    have hS : SqL K H a (ks.map V.str) := SqL.of ha
    refine ⟨_, rfl, .ref a, "list", _, true, rfl, .lst ha, by rfl, _, rfl, iteF ?_⟩
    refine ⟨_, rfl, a, _, rfl, .inl hS, _, _, rfl, rfl, _, rfl, ?_⟩
    rw [List.length_map, decide_eq_true (show (1 : Int) ≤ ks.length by omega)]
    refine iteT ⟨_, _, rfl, rfl, _, rfl, ?_⟩
    rw [decide_eq_true (show (ks.length : Int) ≤ 8 by omega)]
    refine iteF ?_
    refine rd_next ?_
    dsimp only
    refine rd_ret (rd_andV (rd_cb (rd_cons ?_)))
    refine tcomp_names rfl ha hk k8 ?_
    intro D H' nD g hD
    refine ⟨D, _, rfl, SqL.of hD, _, rfl, ?_⟩
    rw [show (List.replicate ks.length true).all id = true from by simp]
    refine iteT ?_
    refine ⟨_, rfl, a, ks, rfl, SqL.of (g _ _ ha), by omega, fun p np => ?_⟩
    refine ⟨p, ks, rfl, upd_same, _, rfl, a, _, rfl, .inl (SqL.of (by rw [upd_ne (ne_of_none (g _ _ ha) np)]; exact g _ _ ha)), rfl, ?_⟩
    rw [List.length_map, cnt_nodup nd _ (Nat.le_refl _), decide_eq_true rfl]
    exact hq _ (g.trans (Grow.new np))
end
def onceL (ks : List Str) : List Str := ks.foldl (fun acc k => if k ∈ acc then acc else acc ++ [k]) []
theorem once_snoc (ks : List Str) (k : Str) : onceL (ks ++ [k]) = if k ∈ onceL ks then onceL ks else onceL ks ++ [k] := by
  unfold onceL
  rw [List.foldl_append]
  rfl
theorem once_len : ∀ (n : Nat) (ks : List Str), ks.length = n → (onceL ks).length ≤ n
  | 0, ks, h => by rw [List.length_eq_zero_iff.mp h]; exact Nat.le_refl _
  | n + 1, ks, h => by
    obtain ⟨xs, x, rfl⟩ : ∃ xs x, ks = xs ++ [x] := ⟨ks.dropLast, ks.getLast (by intro z; rw [z] at h; cases h), (List.dropLast_concat_getLast _).symm⟩
    rw [List.length_append, List.length_singleton] at h
    have ih := once_len n xs (by omega)
    rw [once_snoc]
    split
    · omega
    · rw [List.length_append, List.length_singleton]; omega
theorem inV_str (k : Str) (xs : List Str) : inV (.str k) (xs.map V.str) = decide (k ∈ xs) := by
  unfold inV
  rw [List.any_map, Bool.eq_iff_iff, List.any_eq_true, decide_eq_true_iff]
  constructor
  · rintro ⟨y, hy, e⟩
    have e : (y == k) = true := e
    rw [← eq_of_beq e]; exact hy
  · intro h
    exact ⟨k, h, beq_self_eq_true k⟩
def spOnce (K : PySem.W.Frag) : Sp := fun vs H Q _ => ∃ (a : Addr) (ks : List Str), vs = [.ref a] ∧ SqL K H a (ks.map V.str) ∧ ks.length ≤ 900 ∧ ∀ p, H p = none → Q (.ref p) (upd H p (.lst ((onceL ks).map V.str)))
theorem sql_up {K : PySem.W.Frag} {H : Hp} {a p : Addr} {xs : List V} {o : HO} (h : SqL K H a xs) (np : H p = none) : SqL K (upd H p o) a xs := by
  rcases h with (e | ⟨u, e⟩) | e
  · exact .inl (.inl (by rw [upd_ne (ne_of_none e np)]; exact e))
  · exact .inl (.inr ⟨u, by rw [upd_ne (ne_of_none e np)]; exact e⟩)
  · exact .inr e
section
variable {P : Program} {w : World} {K : PySem.W.Frag} {mg : Str → Option Value} {base : Heap}
theorem scOnce : FnScope ["keys", "once", "key"] ["keys"] (defScope sOnce) := ⟨rfl, rfl, rfl, by decide +kernel, rfl, by decide +kernel, by decide +kernel⟩
theorem ok_once {f : Addr} {fd : FuncData} (F : Fun K "each_once" "each_once" sOnce f fd)  : FnOk P w K mg base CX0 1 f fd ["keys"] (spOnce K) := by
  refine F.ok (k := 0) scOnce (fun vs H Q E h => ?_) (fun cdv A outer s H vs Q E hr h => ?_)
  · obtain ⟨a, ks, rfl, _⟩ := h
    rfl
  · obtain ⟨a, ks, rfl, ha, hl, q⟩ := h
    have hu := hu_of hr
    refine ⟨_, (pss_cons (ps_set (i := 1) scOnce.nd rfl (Or.inl rfl) (pe_lst pa_nil))
      (pss_cons (ps_for PassesOwn.never rfl (pi_list (pv 0)) (pg_name (i := 2) scOnce.nd rfl (Or.inl rfl))
      (pss_one (ps_if (pt_cmpR op_notIn_seq (pv 2) (pv 1) (by with_unfolding_all rfl)) (pss_one (ps_expr (pe_bm PySem.F.plainAttrs_list PySem.F.slot_list_append PySem.F.type_list_append mt_append (pv 1) (pa_kons (pv 2) pa_nil)))) pss_nil)))
      (pss_one (ps_ret (pv 1))))), ?_⟩
    refine rd_seq (rd_asg ⟨by show 0 ≤ sizeLine; decide, fun p np => ?_⟩)
    dsimp only [gName, List.set_cons_zero, List.set_cons_succ]
    refine rd_seq ⟨_, rfl, a, rfl, ⟨_, sql_up ha np⟩, for_list (K := K) (a := a) (xs := ks.map V.str) (fun i σ H2 => H2 = upd H p (.lst ((onceL (ks.take i)).map V.str)) ∧ ∃ v2, σ = [some (.ref a), some (.ref p), v2]) ⟨rfl, none, rfl⟩ (fun i σ H2 _ hh => ?_) (fun i x σ H2 hi hh => ?_) fun σ H2 hh => ?_⟩
    · obtain ⟨rfl, v2, rfl⟩ := hh
      exact sql_up ha np
    · obtain ⟨rfl, v2, rfl⟩ := hh
      rw [List.getElem?_map] at hi
      obtain ⟨k, hk, rfl⟩ := Option.map_eq_some_iff.mp hi
      have hik := (List.getElem?_eq_some_iff.mp hk).1
      dsimp only [gName, List.set_cons_zero, List.set_cons_succ]
      have hol : (onceL (ks.take i)).length ≤ i := once_len i _ (by rw [List.length_take]; omega)
      have et : ks.take (i + 1) = ks.take i ++ [k] := by rw [List.take_add_one, hk]; rfl
      refine rd_if ⟨_, rfl, _, rfl, p, _, rfl, .inl (SqL.of upd_same), rfl, ?_, ?_⟩
      · rw [List.all_map, List.all_eq_true]; intro _ _; rfl
      rw [if_pos rfl, inV_str]
      refine ⟨_, rfl, ?_⟩
      by_cases z : k ∈ onceL (ks.take i)
      · rw [decide_eq_true z]
        refine iteF (rd_next ⟨?_, _, rfl⟩)
        rw [et, once_snoc, if_pos z]
      · rw [decide_eq_false z]
        refine iteT (rd_expr ⟨_, rfl, .inl ⟨rfl, _, SqL.of upd_same⟩, _, rfl, p, _, _, rfl, rfl, upd_same, by rw [List.length_map]; exact small1000 (by omega), ?_, _, rfl⟩)
        rw [upd_upd, et, once_snoc, if_neg z, List.map_append]; rfl
    · obtain ⟨rfl, v2, rfl⟩ := hh
      rw [List.length_map, List.take_length]
      exact rd_ret ⟨_, rfl, q p np⟩
end
end Mine
namespace L2
open PySem PySem.Spec PyProof.Rows
theorem vals_strV : ∀ l : List (Str × Tok), Vals ((l.map (·.1)).map V.str) (strValues l)
  | [] => .nil
  | p :: l => .cons ⟨p.2, rfl⟩ (vals_strV l)
inductive rSplit (x : V) (xs : List V) (H : Hp) (Q : VK) : Prop
  | mk (i j) (h1 : x = .str i) (h2 : xs = [.str j]) (h3 : (j.length == 0) = false) (h4 : i.length ≤ sizeLine) (h5 : (Txt.split i j).length ≤ sizeLine) (h6 : ∀ l, H l = none → Q (.ref l) (upd H l (.lst ((Txt.split i j).map V.str)))) : rSplit x xs H Q
theorem mt_split {X : Cx} : MtR X "str.split" rSplit := by
  intro pins s σ H x xs v us Q I rx rv h
  obtain ⟨i, j, rfl, rfl, hj, hi, hl, q⟩ := h
  obtain ⟨t, rfl⟩ := rx
  obtain ⟨u, rfl, ru⟩ := Vals.one rv
  obtain ⟨t2, rfl⟩ := ru
  have fin : ∀ (l : List (Str × Tok)) (tk c : Nat), l.map (·.1) = Txt.split i j → EP X pins σ Q (.ref s.heap.objs.size) { s with toks := tk, heap := s.heap.push { cls := .type "list", data := .seq (strValues l).toArray c } } := fun l tk c e => by
    have vv := vals_strV l
    rw [e] at vv
    exact ⟨.ref s.heap.objs.size, _, I.laid (t' := tk) (fun b o eb => Heap.get?_push_of_some _ eb) (Nat.le_refl _) (show ObjOk X.prog X.w _ _ _ (.lst ((Txt.split i j).map V.str)) from ⟨by rw [List.length_map]; exact hl, strValues l, c, vv, Heap.get?_push_size _ rfl⟩), rfl, q _ (I.hok.fresh (Nat.le_refl _))⟩
  cases c1 : (decide (i.length < j.length) || decide (Builtin.Str.strKind i < Builtin.Str.strKind j)) with
  | true =>
    refine call_meets F.slot_str_split (typeIs_str _ _ _) F.entry_str_split (F.args_str_split_2 _ _) (meets_str_split_cannot_occur i j t t2 c1) ?_
    exact fin [(i, t)] s.toks _ (if_pos c1).symm
  | false =>
    cases c2 : (Builtin.Str.occurrences i j 0 i.length (i.length + 1)).isEmpty with
    | true =>
      refine call_meets F.slot_str_split (typeIs_str _ _ _) F.entry_str_split (F.args_str_split_2 _ _) (meets_str_split_not_found i j t t2 c1 hj c2) ?_
      exact fin [(i, t)] s.toks _ ((if_neg (ne_true_of_eq_false c1)).trans (if_pos c2)).symm
    | false =>
      have es : Txt.split i j = Builtin.Str.partsBetween i (Builtin.Str.occurrences i j 0 i.length (i.length + 1)) j.length := (if_neg (ne_true_of_eq_false c1)).trans (if_neg (ne_true_of_eq_false c2))
      refine call_meets F.slot_str_split (typeIs_str _ _ _) F.entry_str_split (F.args_str_split_2 _ _) (meets_str_split_sep i j t t2 c1 hj c2 hi (by rw [← es]; exact hl)) ?_
      rw [strsFrom_eq]
      exact fin (numbered s.toks _) _ _ ((numbered_texts _ _).trans es.symm)
theorem cut_uniq {c : Nat} {A B : List Nat} : ∀ {p q : List Nat}, c ∉ p → c ∉ q → p ++ c :: A = q ++ c :: B → p = q ∧ A = B
  | [], [], _, _, h => ⟨rfl, (List.cons.inj h).2⟩
  | [], y :: q, _, hq, h => absurd (List.mem_cons.mpr (.inl (List.cons.inj h).1)) hq
  | x :: p, [], hp, _, h => absurd (List.mem_cons.mpr (.inl (List.cons.inj h).1.symm)) hp
  | x :: p, y :: q, hp, hq, h => by
    obtain ⟨h1, h2⟩ := List.cons.inj h
    obtain ⟨e1, e2⟩ := cut_uniq (fun z => hp (List.mem_cons_of_mem _ z)) (fun z => hq (List.mem_cons_of_mem _ z)) h2
    exact ⟨by rw [h1, e1], e2⟩
theorem join_cps (c : Nat) (x y : Str) (zs : List Str) : (Str.join ⟨#[c]⟩ (x :: y :: zs)).cps.toList = x.cps.toList ++ c :: (Str.join ⟨#[c]⟩ (y :: zs)).cps.toList := by
  show (x ++ (⟨#[c]⟩ : Str) ++ Str.join ⟨#[c]⟩ (y :: zs)).cps.toList = _
  rw [app_cps, app_cps, List.append_assoc]
  rfl
theorem join_inj {c : Nat} : ∀ {ps qs : List Str}, ps ≠ [] → qs ≠ [] → (∀ w ∈ ps, c ∉ w.cps.toList) → (∀ w ∈ qs, c ∉ w.cps.toList) → Str.join ⟨#[c]⟩ ps = Str.join ⟨#[c]⟩ qs → ps = qs
  | [], _, h, _, _, _, _ => absurd rfl h
  | _, [], _, h, _, _, _ => absurd rfl h
  | [p], [q], _, _, _, _, h => by
    have h : p = q := h
    rw [h]
  | [p], q :: q' :: qs, _, _, hp, _, h => by
    have h : p = Str.join ⟨#[c]⟩ (q :: q' :: qs) := h
    have e := congrArg (fun x : Str => x.cps.toList) h
    rw [join_cps] at e
    exact absurd (by rw [e]; exact List.mem_append_right _ List.mem_cons_self) (hp p List.mem_cons_self)
  | p :: p' :: ps, [q], _, _, _, hq, h => by
    have h : Str.join ⟨#[c]⟩ (p :: p' :: ps) = q := h
    have e := congrArg (fun x : Str => x.cps.toList) h
    rw [join_cps] at e
    exact absurd (by rw [← e]; exact List.mem_append_right _ List.mem_cons_self) (hq q List.mem_cons_self)
  | p :: p' :: ps, q :: q' :: qs, _, _, hp, hq, h => by
    have e := congrArg (fun x : Str => x.cps.toList) h
    rw [join_cps, join_cps] at e
    obtain ⟨e1, e2⟩ := cut_uniq (hp p List.mem_cons_self) (hq q List.mem_cons_self) e
    rw [str_ext e1, join_inj (ps := p' :: ps) (qs := q' :: qs) (by simp) (by simp) (fun w hw => hp w (List.mem_cons_of_mem _ hw)) (fun w hw => hq w (List.mem_cons_of_mem _ hw)) (str_ext e2)]
theorem split_join {ws : List Str} {c : Nat} (hne : ws ≠ []) (hf : ∀ w ∈ ws, c ∉ w.cps.toList) : Txt.split (Txt.join ⟨#[c]⟩ ws) ⟨#[c]⟩ = ws := by
  have e : Txt.join ⟨#[c]⟩ ws = Str.join ⟨#[c]⟩ ws := by
    show Builtin.Str.glued ⟨#[c]⟩ ws = _
    exact StrLaws.glued_eq_join _ _
  rw [e]
  refine join_inj (fun z => ?_) hne (StrLaws.split_free _ _) hf (StrLaws.join_split _ _)
  have := PyProof.Rows.split_pos (Str.join ⟨#[c]⟩ ws) ⟨#[c]⟩
  rw [z] at this
  cases this
end L2
namespace Mine
open PySem L2
abbrev sHere : Stmt := inClass (top 39) 1
abbrev sGo : Stmt := inClass (top 39) 2
structure RdC (K : PySem.W.Frag) (R : Addr) : Prop where
  cl : Cls K R
  n1 : NoAttr K R "words"
  n2 : NoAttr K R "place"
  n3 : NoAttr K R "opened"
def rflds (lw : Addr) (pl op : Int) : List (Str × V) := [("words", V.ref lw), ("place", V.int pl), ("opened", V.int op)]
theorem rf_w (lw : Addr) (pl op : Int) : (rflds lw pl op).lookup ("words" : Str) = some (.ref lw) := rfl
theorem rf_p (lw : Addr) (pl op : Int) : (rflds lw pl op).lookup ("place" : Str) = some (.int pl) := by
  unfold rflds
  rw [List.lookup_cons, show (("place" : Str) == ("words" : Str)) = false from by decide +kernel]
  rfl
theorem rf_put (lw : Addr) (pl op pl' : Int) : putF "place" (.int pl') (rflds lw pl op) = rflds lw pl' op := by
  rfl
structure RdAt (R : Addr) (H : Hp) (r lw : Addr) (ws : List Str) (pl : Nat) (op : Int) : Prop where
  ob : ∃ dx, H r = some (.ins R dx (rflds lw pl op))
  wd : H lw = some (.lst (ws.map V.str))
def spHere (R : Addr) : Sp := fun vs H Q _ => ∃ (r lw : Addr) (ws : List Str) (pl : Nat) (op : Int) (w : Str), vs = [.ref r] ∧ RdAt R H r lw ws pl op ∧ ws[pl]? = some w ∧ Q (.str w) H
def spGo (R : Addr) : Sp := fun vs H Q _ => ∃ (r lw : Addr) (ws : List Str) (pl : Nat) (op : Int), vs = [.ref r, .bl true] ∧ RdAt R H r lw ws pl op ∧ ∀ H', (∀ b o, H b = some o → b ≠ r → H' b = some o) → RdAt R H' r lw ws (pl + 1) op → Q .non H'
section
variable {P : Program} {w : World} {K : PySem.W.Frag} {mg : Str → Option Value} {base : Heap}
theorem scHere : FnScope ["self"] ["self"] (defScope sHere) := ⟨rfl, rfl, rfl, by decide +kernel, rfl, by decide +kernel, by decide +kernel⟩
theorem ok_here {f R : Addr} {fd : FuncData} (F : Fun K "here" "Reader.here" sHere f fd) (N : Free mg) (T : RdC K R) : FnOk P w K mg base CX0 1 f fd ["self"] (spHere R) := by
  refine F.ok (k := 0) scHere (fun vs H Q E h => ?_) (fun cdv A outer s H vs Q E hr h => ?_)
  · obtain ⟨r, lw, ws, pl, op, w, rfl, _⟩ := h
    rfl
  · obtain ⟨r, lw, ws, pl, op, w, rfl, ⟨⟨dx, ho⟩, hw⟩, hx, q⟩ := h
    have hu := hu_of hr
    refine ⟨_, (pss_cons (ps_if (pt_cmpR op_eq (pe_fld (pv 0) rfl) (pe_callB call_len_seq (by rfl) N.len PySem.boot_len (pa_kons (pe_fld (pv 0) rfl) pa_nil)) (nomark _)) (pss_one ps_never) pss_nil)
      (pss_one (ps_ret (pe_ix ix_list (pe_fld (pv 0) rfl) (pe_fld (pv 0) rfl) (fun _ _ => rfl))))), ?_⟩
    have hlt := (List.getElem?_eq_some_iff.mp hx).1
    have at0 : SqL K H lw (ws.map V.str) := SqL.of hw
    refine rd_seq (rd_if ⟨_, rfl, r, R, dx, _, _, rfl, ho, T.cl, T.n2, rf_p _ _ _, _, rfl, r, R, dx, _, _, rfl, ho, T.cl, T.n1, rf_w _ _ _, lw, _, rfl, .inl at0, rfl, _, rfl, ?_⟩)
    rw [List.length_map, decide_eq_false (fun z => by have := V.int.inj z; omega)]
    refine iteF (rd_next ?_)
    dsimp only
    exact rd_ret ⟨_, rfl, r, R, dx, _, _, rfl, ho, T.cl, T.n1, rf_w _ _ _, _, rfl, r, R, dx, _, _, rfl, ho, T.cl, T.n2, rf_p _ _ _, lw, _, _, .str w, rfl, rfl, at0, atI_nat (by rw [List.getElem?_map, hx]; rfl), q⟩
end
section
variable {P : Program} {w : World} {K : PySem.W.Frag} {mg : Str → Option Value} {base : Heap}
theorem scGo : FnScope ["self", "can_stand"] ["self", "can_stand"] (defScope sGo) := ⟨rfl, rfl, rfl, by decide +kernel, rfl, by decide +kernel, by decide +kernel⟩
theorem ok_go {f R : Addr} {fd : FuncData} (F : Fun K "go_on" "Reader.go_on" sGo f fd) (N : Free mg) (T : RdC K R) : FnOk P w K mg base CX0 1 f fd ["self", "can_stand"] (spGo R) := by
  refine F.ok (k := 0) scGo (fun vs H Q E h => ?_) (fun cdv A outer s H vs Q E hr h => ?_)
  · obtain ⟨r, lw, ws, pl, op, rfl, _⟩ := h
    rfl
  · obtain ⟨r, lw, ws, pl, op, rfl, ⟨⟨dx, ho⟩, hw⟩, q⟩ := h
    have hu := hu_of hr
    refine ⟨_, (pss_cons (ps_if (pt_not (pt_val (pv 1))) (pss_one ps_never) pss_nil)
      (pss_one (ps_fldaug (pv 0) pe_int in_add))), ?_⟩
    refine rd_seq (rd_if ⟨_, rfl, _, rfl, iteF (rd_next ?_)⟩)
    dsimp only
    refine ⟨_, rfl, r, R, dx, _, _, rfl, ho, T.cl, T.n2, rf_p _ _ _, _, _, rfl, rfl, dx, _, ho, by show 3 < 1000; decide, ?_⟩
    rw [rf_put]
    have hlr : lw ≠ r := ne_of hw ho (fun z => nomatch z)
    exact q _ (fun b o e n => by rw [upd_ne n]; exact e) ⟨⟨dx, upd_same⟩, by rw [upd_ne hlr]; exact hw⟩
end
end Mine
namespace Mine
open PySem L2
abbrev sNumH : Stmt := inClass (top 39) 4
abbrev sValH : Stmt := inClass (top 39) 5
abbrev sDayH : Stmt := inClass (top 39) 6
abbrev sKeyH : Stmt := inClass (top 39) 7
theorem rf_no (lw : Addr) (pl op : Int) {m : Str} (h1 : decide (m = "words") = false) (h2 : decide (m = "place") = false) (h3 : decide (m = "opened") = false) : (rflds lw pl op).lookup m = none := by
  unfold rflds
  rw [List.lookup_cons, beq_eq_false_iff_ne.mpr (of_decide_eq_false h1), List.lookup_cons, beq_eq_false_iff_ne.mpr (of_decide_eq_false h2), List.lookup_cons, beq_eq_false_iff_ne.mpr (of_decide_eq_false h3)]
  rfl
theorem RdAt.keep {R : Addr} {H H' : Hp} {r lw : Addr} {ws : List Str} {pl : Nat} {op : Int} (h : RdAt R H r lw ws pl op) (g : Grow H H') : RdAt R H' r lw ws pl op := ⟨let ⟨dx, e⟩ := h.ob; ⟨dx, g _ _ e⟩, g _ _ h.wd⟩
def Ofr (r : Addr) (H H' : Hp) : Prop := ∀ b o, H b = some o → b ≠ r → H' b = some o
def spNumH (R : Addr) : Sp := fun vs H Q _ => ∃ (r lw : Addr) (ws : List Str) (pl : Nat) (op lo hi v : Int) (w : Str), vs = [.ref r, .int lo, .int hi] ∧ RdAt R H r lw ws pl op ∧ ws[pl]? = some w ∧ w.length < sizeLine ∧ numV w lo hi = .int v ∧ ∀ H', Ofr r H H' → RdAt R H' r lw ws (pl + 1) op → Q (.int v) H'
def spValH (R : Addr) : Sp := fun vs H Q _ => ∃ (r lw : Addr) (ws : List Str) (pl : Nat) (op v : Int) (w : Str), vs = [.ref r] ∧ RdAt R H r lw ws pl op ∧ ws[pl]? = some w ∧ w.length < sizeLine ∧ numV w (-1000000000) 1000000000 = .int v ∧ ∀ H', Ofr r H H' → RdAt R H' r lw ws (pl + 1) op → Q (.int v) H'
def spDayH (R : Addr) : Sp := fun vs H Q _ => ∃ (r lw : Addr) (ws : List Str) (pl : Nat) (op lo v : Int) (w : Str), vs = [.ref r, .int lo] ∧ RdAt R H r lw ws pl op ∧ ws[pl]? = some w ∧ w.length < sizeLine ∧ numV w lo 399 = .int v ∧ ∀ H', Ofr r H H' → RdAt R H' r lw ws (pl + 1) op → Q (.int v) H'
def spKeyH (R : Addr) : Sp := fun vs H Q _ => ∃ (r lw : Addr) (ws : List Str) (pl : Nat) (op : Int) (w : Str), vs = [.ref r] ∧ RdAt R H r lw ws pl op ∧ ws[pl]? = some w ∧ w.length < sizeLine ∧ hasB w letZ 8 = true ∧ ∀ H', Ofr r H H' → RdAt R H' r lw ws (pl + 1) op → Q (.str w) H'
section
variable {P : Program} {w : World} {K : PySem.W.Frag} {mg : Str → Option Value} {base : Heap}
theorem scNumH : FnScope ["self", "low", "high", "number"] ["self", "low", "high"] (defScope sNumH) := ⟨rfl, rfl, rfl, by decide +kernel, rfl, by decide +kernel, by decide +kernel⟩
theorem ok_numH {f f1 f2 f3 R : Addr} {fd : FuncData} (F : Fun K "number_here" "Reader.number_here" sNumH f fd) (N : Free mg) (T : RdC K R) {fd1 : FuncData} (MH : MC P w K mg base R "here" 1 ["self"] [] [] (spHere R) f1 fd1) {fd2 : FuncData} (MG : MC P w K mg base R "go_on" 1 ["self", "can_stand"] [] [] (spGo R) f2 fd2) {fd3 : FuncData} (CO : Cal P w K mg base "number_of" 2 ["text", "low", "high"] spNumber f3 fd3) : FnOk P w K mg base CX0 3 f fd ["self", "low", "high"] (spNumH R) := by
  refine F.ok (k := 2) scNumH (fun vs H Q E h => ?_) (fun cdv A outer s H vs Q E hr h => ?_)
  · obtain ⟨r, lw, ws, pl, op, lo, hi, v, w, rfl, _⟩ := h
    rfl
  · obtain ⟨r, lw, ws, pl, op, lo, hi, v, w, rfl, h, hx, hl, hv, q⟩ := h
    have hu := hu_of hr
    refine ⟨_, (pss_cons (ps_set (i := 3) scNumH.nd rfl (Or.inl rfl) (pe_call CO.ok (hr.mono (by decide)) rfl CO.nm CO.kp CO.bd .nil pass0 (pa_kons (pe_meth0 (pv 0) MH.cl MH.mt MH.ok (hr.mono (by decide)) MH.bd MH.dv pass0) (pa_kons (pv 1) (pa_kons (pv 2) pa_nil)))))
      (pss_cons (ps_expr (pe_meth (pv 0) MG.cl MG.mt MG.ok (hr.mono (by decide)) MG.bd MG.dv pass0 (pa_kons (pe_cmp (pc_notN (pv 3))) pa_nil)))
      (pss_one (ps_ret (pv 3))))), ?_⟩
    obtain ⟨dx, ho⟩ := h.ob
    refine rd_seq (rd_asg ⟨_, rfl, r, dx, _, rfl, ho, rf_no _ _ _ (by decide +kernel) (by decide +kernel) (by decide +kernel), r, lw, ws, pl, op, w, rfl, h, hx, _, rfl, _, rfl, w, lo, hi, rfl, hl, fun H1 g1 => ?_⟩)
    rw [hv]
    dsimp only [gName, List.set_cons_zero, List.set_cons_succ]
    have h1 := h.keep g1
    obtain ⟨dx1, ho1⟩ := h1.ob
    refine rd_seq (rd_expr ⟨_, rfl, r, dx1, _, rfl, ho1, rf_no _ _ _ (by decide +kernel) (by decide +kernel) (by decide +kernel), _, rfl, r, lw, ws, pl, op, rfl, h1, fun H2 o2 h2 => ?_⟩)
    dsimp only
    exact rd_ret ⟨_, rfl, q H2 (fun b o e n => o2 _ _ (g1 _ _ e) n) h2⟩
end
section
variable {P : Program} {w : World} {K : PySem.W.Frag} {mg : Str → Option Value} {base : Heap}
theorem scKeyH : FnScope ["self", "key"] ["self"] (defScope sKeyH) := ⟨rfl, rfl, rfl, by decide +kernel, rfl, by decide +kernel, by decide +kernel⟩
theorem ok_keyH {f f1 f2 f3 R : Addr} {fd : FuncData} (F : Fun K "key_here" "Reader.key_here" sKeyH f fd) (N : Free mg) (T : RdC K R) {fd1 : FuncData} (MH : MC P w K mg base R "here" 1 ["self"] [] [] (spHere R) f1 fd1) {fd2 : FuncData} (MG : MC P w K mg base R "go_on" 1 ["self", "can_stand"] [] [] (spGo R) f2 fd2) {fd3 : FuncData} (CN : Cal P w K mg base "is_name" 2 ["thing"] (spName K) f3 fd3) : FnOk P w K mg base CX0 3 f fd ["self"] (spKeyH R) := by
  refine F.ok (k := 2) scKeyH (fun vs H Q E h => ?_) (fun cdv A outer s H vs Q E hr h => ?_)
  · obtain ⟨r, lw, ws, pl, op, w, rfl, _⟩ := h
    rfl
  · obtain ⟨r, lw, ws, pl, op, w, rfl, h, hx, hl, hv, q⟩ := h
    have hu := hu_of hr
    refine ⟨_, (pss_cons (ps_set (i := 1) scKeyH.nd rfl (Or.inl rfl) (pe_meth0 (pv 0) MH.cl MH.mt MH.ok (hr.mono (by decide)) MH.bd MH.dv pass0))
      (pss_cons (ps_expr (pe_meth (pv 0) MG.cl MG.mt MG.ok (hr.mono (by decide)) MG.bd MG.dv pass0 (pa_kons (pe_call CN.ok (hr.mono (by decide)) rfl CN.nm CN.kp CN.bd .nil pass0 (pa_kons (pv 1) pa_nil)) pa_nil)))
      (pss_one (ps_ret (pv 1))))), ?_⟩
    obtain ⟨dx, ho⟩ := h.ob
    refine rd_seq (rd_asg ⟨_, rfl, r, dx, _, rfl, ho, rf_no _ _ _ (by decide +kernel) (by decide +kernel) (by decide +kernel), r, lw, ws, pl, op, w, rfl, h, hx, ?_⟩)
    dsimp only [gName, List.set_cons_zero, List.set_cons_succ]
    refine rd_seq (rd_expr ⟨_, rfl, r, dx, _, rfl, ho, rf_no _ _ _ (by decide +kernel) (by decide +kernel) (by decide +kernel), _, rfl, .str w, rfl, .inl ⟨w, rfl, hl, fun H1 g1 => ?_⟩⟩)
    rw [hv]
    exact ⟨r, lw, ws, pl, op, rfl, h.keep g1, fun H2 o2 h2 => rd_ret ⟨_, rfl, q H2 (fun b o e n => o2 _ _ (g1 _ _ e) n) h2⟩⟩
end
section
variable {P : Program} {w : World} {K : PySem.W.Frag} {mg : Str → Option Value} {base : Heap}
theorem scValH : FnScope ["self"] ["self"] (defScope sValH) := ⟨rfl, rfl, rfl, by decide +kernel, rfl, by decide +kernel, by decide +kernel⟩
theorem ok_valH {f f1 R : Addr} {fd : FuncData} (F : Fun K "value_here" "Reader.value_here" sValH f fd) (N : Free mg) (Z : Con mg) (T : RdC K R) {fd1 : FuncData} (MN : MC P w K mg base R "number_here" 3 ["self", "low", "high"] [] [] (spNumH R) f1 fd1) : FnOk P w K mg base CX0 4 f fd ["self"] (spValH R) := by
  obtain ⟨t1, c1⟩ := Z.value
  refine F.ok (k := 3) scValH (fun vs H Q E h => ?_) (fun cdv A outer s H vs Q E hr h => ?_)
  · obtain ⟨r, lw, ws, pl, op, v, w, rfl, _⟩ := h
    rfl
  · obtain ⟨r, lw, ws, pl, op, v, w, rfl, h, hx, hl, hv, q⟩ := h
    have hu := hu_of hr
    refine ⟨_, (pss_one (ps_ret (pe_meth (pv 0) MN.cl MN.mt MN.ok (hr.mono (by decide)) MN.bd MN.dv pass0 (pa_kons (pe_un un_neg (pe_glob (v := .int 1000000000) (by rfl) c1 ⟨_, rfl⟩)) (pa_kons (pe_glob (v := .int 1000000000) (by rfl) c1 ⟨_, rfl⟩) pa_nil))))), ?_⟩
    obtain ⟨dx, ho⟩ := h.ob
    exact ⟨_, rfl, r, dx, _, rfl, ho, rf_no _ _ _ (by decide +kernel) (by decide +kernel) (by decide +kernel), _, rfl, r, lw, ws, pl, op, -1000000000, 1000000000, v, w, rfl, h, hx, hl, hv, q⟩
end
section
variable {P : Program} {w : World} {K : PySem.W.Frag} {mg : Str → Option Value} {base : Heap}
theorem scDayH : FnScope ["self", "earliest"] ["self", "earliest"] (defScope sDayH) := ⟨rfl, rfl, rfl, by decide +kernel, rfl, by decide +kernel, by decide +kernel⟩
theorem ok_dayH {f f1 R : Addr} {fd : FuncData} (F : Fun K "day_here" "Reader.day_here" sDayH f fd) (N : Free mg) (Z : Con mg) (T : RdC K R) {fd1 : FuncData} (MN : MC P w K mg base R "number_here" 3 ["self", "low", "high"] [] [] (spNumH R) f1 fd1) : FnOk P w K mg base CX0 4 f fd ["self", "earliest"] (spDayH R) := by
  obtain ⟨t1, c1⟩ := Z.lastday
  refine F.ok (k := 3) scDayH (fun vs H Q E h => ?_) (fun cdv A outer s H vs Q E hr h => ?_)
  · obtain ⟨r, lw, ws, pl, op, lo, v, w, rfl, _⟩ := h
    rfl
  · obtain ⟨r, lw, ws, pl, op, lo, v, w, rfl, h, hx, hl, hv, q⟩ := h
    have hu := hu_of hr
    refine ⟨_, (pss_one (ps_ret (pe_meth (pv 0) MN.cl MN.mt MN.ok (hr.mono (by decide)) MN.bd MN.dv pass0 (pa_kons (pv 1) (pa_kons (pe_glob (v := .int 399) (by rfl) c1 ⟨_, rfl⟩) pa_nil))))), ?_⟩
    obtain ⟨dx, ho⟩ := h.ob
    exact ⟨_, rfl, r, dx, _, rfl, ho, rf_no _ _ _ (by decide +kernel) (by decide +kernel) (by decide +kernel), _, rfl, r, lw, ws, pl, op, lo, 399, v, w, rfl, h, hx, hl, hv, q⟩
end
end Mine
namespace Mine
open PySem L2
abbrev sKeysH : Stmt := inClass (top 39) 8
abbrev sOpens : Stmt := inClass (top 39) 9
abbrev sCloses : Stmt := inClass (top 39) 10
abbrev sEnd : Stmt := inClass (top 39) 11
theorem rf_o (lw : Addr) (pl op : Int) : (rflds lw pl op).lookup ("opened" : Str) = some (.int op) := by
  unfold rflds
  rw [List.lookup_cons, show (("opened" : Str) == ("words" : Str)) = false from by decide +kernel, List.lookup_cons, show (("opened" : Str) == ("place" : Str)) = false from by decide +kernel]
  rfl
theorem rf_puto (lw : Addr) (pl op op' : Int) : putF "opened" (.int op') (rflds lw pl op) = rflds lw pl op' := by rfl
def spOpens (R : Addr) : Sp := fun vs H Q _ => ∃ (r lw : Addr) (ws : List Str) (pl : Nat) (op : Int), vs = [.ref r] ∧ RdAt R H r lw ws pl op ∧ ws[pl]? = some (Str.ofString "(") ∧ op < 3 ∧ ∀ H', Ofr r H H' → RdAt R H' r lw ws (pl + 1) (op + 1) → Q .non H'
def spCloses (R : Addr) : Sp := fun vs H Q _ => ∃ (r lw : Addr) (ws : List Str) (pl : Nat) (op : Int), vs = [.ref r] ∧ RdAt R H r lw ws pl op ∧ ws[pl]? = some (Str.ofString ")") ∧ ∀ H', Ofr r H H' → RdAt R H' r lw ws (pl + 1) (op - 1) → Q .non H'
def spEnd (R : Addr) : Sp := fun vs H Q _ => ∃ (r lw : Addr) (ws : List Str) (op : Int), vs = [.ref r] ∧ RdAt R H r lw ws ws.length op ∧ Q .non H
section
variable {P : Program} {w : World} {K : PySem.W.Frag} {mg : Str → Option Value} {base : Heap}
theorem scOpens : FnScope ["self"] ["self"] (defScope sOpens) := ⟨rfl, rfl, rfl, by decide +kernel, rfl, by decide +kernel, by decide +kernel⟩
theorem ok_opens {f f1 f2 R : Addr} {fd : FuncData} (F : Fun K "bracket_opens" "Reader.bracket_opens" sOpens f fd) (N : Free mg) (Z : Con mg) (T : RdC K R) {fd1 : FuncData} (MH : MC P w K mg base R "here" 1 ["self"] [] [] (spHere R) f1 fd1) {fd2 : FuncData} (MG : MC P w K mg base R "go_on" 1 ["self", "can_stand"] [] [] (spGo R) f2 fd2) : FnOk P w K mg base CX0 2 f fd ["self"] (spOpens R) := by
  obtain ⟨t1, c1⟩ := Z.opn
  refine F.ok (k := 1) scOpens (fun vs H Q E h => ?_) (fun cdv A outer s H vs Q E hr h => ?_)
  · obtain ⟨r, lw, ws, pl, op, rfl, _⟩ := h
    rfl
  · obtain ⟨r, lw, ws, pl, op, rfl, h, hx, h3, q⟩ := h
    have hu := hu_of hr
    refine ⟨_, (pss_cons (ps_expr (pe_meth (pv 0) MG.cl MG.mt MG.ok (hr.mono (by decide)) MG.bd MG.dv pass0 (pa_kons (pe_and (pe_cmpR op_eq (pe_meth0 (pv 0) MH.cl MH.mt MH.ok (hr.mono (by decide)) MH.bd MH.dv pass0) pe_str (nomark _)) (pe_one (pe_cmpR op_lt (pe_fld (pv 0) rfl) (pe_glob (v := .int 3) (by rfl) c1 ⟨_, rfl⟩) (nomark _)))) pa_nil)))
      (pss_one (ps_fldaug (pv 0) pe_int in_add))), ?_⟩
    obtain ⟨dx, ho⟩ := h.ob
    refine rd_seq (rd_expr ⟨_, rfl, r, dx, _, rfl, ho, rf_no _ _ _ (by decide +kernel) (by decide +kernel) (by decide +kernel), _, rfl, r, dx, _, rfl, ho, rf_no _ _ _ (by decide +kernel) (by decide +kernel) (by decide +kernel), r, lw, ws, pl, op, _, rfl, h, hx, rfl, _, rfl, iteT ?_⟩)
    refine ⟨_, rfl, r, R, dx, _, _, rfl, ho, T.cl, T.n3, rf_o _ _ _, _, _, rfl, rfl, ?_⟩
    rw [decide_eq_true h3]
    refine ⟨r, lw, ws, pl, op, rfl, h, fun H1 o1 h1 => ?_⟩
    obtain ⟨dx1, ho1⟩ := h1.ob
    refine ⟨_, rfl, r, R, dx1, _, _, rfl, ho1, T.cl, T.n3, rf_o _ _ _, _, _, rfl, rfl, dx1, _, ho1, by show 3 < 1000; decide, ?_⟩
    rw [rf_puto]
    have hlr : lw ≠ r := ne_of h1.wd ho1 (fun z => nomatch z)
    exact q _ (fun b o e n => by rw [upd_ne n]; exact o1 _ _ e n) ⟨⟨dx1, upd_same⟩, by rw [upd_ne hlr]; exact h1.wd⟩
end
section
variable {P : Program} {w : World} {K : PySem.W.Frag} {mg : Str → Option Value} {base : Heap}
theorem scCloses : FnScope ["self"] ["self"] (defScope sCloses) := ⟨rfl, rfl, rfl, by decide +kernel, rfl, by decide +kernel, by decide +kernel⟩
theorem ok_closes {f f1 f2 R : Addr} {fd : FuncData} (F : Fun K "bracket_closes" "Reader.bracket_closes" sCloses f fd) (N : Free mg) (T : RdC K R) {fd1 : FuncData} (MH : MC P w K mg base R "here" 1 ["self"] [] [] (spHere R) f1 fd1) {fd2 : FuncData} (MG : MC P w K mg base R "go_on" 1 ["self", "can_stand"] [] [] (spGo R) f2 fd2) : FnOk P w K mg base CX0 2 f fd ["self"] (spCloses R) := by
  refine F.ok (k := 1) scCloses (fun vs H Q E h => ?_) (fun cdv A outer s H vs Q E hr h => ?_)
  · obtain ⟨r, lw, ws, pl, op, rfl, _⟩ := h
    rfl
  · obtain ⟨r, lw, ws, pl, op, rfl, h, hx, q⟩ := h
    have hu := hu_of hr
    refine ⟨_, (pss_cons (ps_expr (pe_meth (pv 0) MG.cl MG.mt MG.ok (hr.mono (by decide)) MG.bd MG.dv pass0 (pa_kons (pe_cmpR op_eq (pe_meth0 (pv 0) MH.cl MH.mt MH.ok (hr.mono (by decide)) MH.bd MH.dv pass0) pe_str (nomark _)) pa_nil)))
      (pss_one (ps_fldaug (pv 0) pe_int in_sub))), ?_⟩
    obtain ⟨dx, ho⟩ := h.ob
    refine rd_seq (rd_expr ⟨_, rfl, r, dx, _, rfl, ho, rf_no _ _ _ (by decide +kernel) (by decide +kernel) (by decide +kernel), _, rfl, r, dx, _, rfl, ho, rf_no _ _ _ (by decide +kernel) (by decide +kernel) (by decide +kernel), r, lw, ws, pl, op, _, rfl, h, hx, rfl, r, lw, ws, pl, op, rfl, h, fun H1 o1 h1 => ?_⟩)
    obtain ⟨dx1, ho1⟩ := h1.ob
    refine ⟨_, rfl, r, R, dx1, _, _, rfl, ho1, T.cl, T.n3, rf_o _ _ _, _, _, rfl, rfl, dx1, _, ho1, by show 3 < 1000; decide, ?_⟩
    rw [rf_puto]
    have hlr : lw ≠ r := ne_of h1.wd ho1 (fun z => nomatch z)
    exact q _ (fun b o e n => by rw [upd_ne n]; exact o1 _ _ e n) ⟨⟨dx1, upd_same⟩, by rw [upd_ne hlr]; exact h1.wd⟩
end
theorem comma_not {k : Str} (h : hasB k letZ 8 = true) : 44 ∉ k.cps.toList := fun z => by
  unfold hasB at h
  rw [Bool.and_eq_true, Bool.and_eq_true] at h
  have := List.all_eq_true.mp h.2.2 44 z
  exact absurd this (by decide +kernel)
theorem comma_eq : Str.ofString "," = (⟨#[44]⟩ : Str) := by decide +kernel
def spKeysH (R : Addr) : Sp := fun vs H Q _ => ∃ (r lw : Addr) (ws : List Str) (pl : Nat) (op : Int) (ks : List Str), vs = [.ref r] ∧ RdAt R H r lw ws pl op ∧ ws[pl]? = some (Txt.join (Str.ofString ",") ks) ∧ (Txt.join (Str.ofString ",") ks).length ≤ sizeLine ∧ 1 ≤ ks.length ∧ ks.length ≤ 8 ∧ ks.Nodup ∧ (∀ k ∈ ks, hasB k letZ 8 = true ∧ k.length < sizeLine) ∧ ∀ (p : Addr) (H' : Hp), H p = none → Ofr r H H' → H' p = some (.lst (ks.map V.str)) → RdAt R H' r lw ws (pl + 1) op → Q (.ref p) H'
section
variable {P : Program} {w : World} {K : PySem.W.Frag} {mg : Str → Option Value} {base : Heap}
theorem scKeysH : FnScope ["self", "keys"] ["self"] (defScope sKeysH) := ⟨rfl, rfl, rfl, by decide +kernel, rfl, by decide +kernel, by decide +kernel⟩
theorem ok_keysH {f f1 f2 f3 R : Addr} {fd : FuncData} (F : Fun K "keys_here" "Reader.keys_here" sKeysH f fd) (N : Free mg) (T : RdC K R) {fd1 : FuncData} (MH : MC P w K mg base R "here" 1 ["self"] [] [] (spHere R) f1 fd1) {fd2 : FuncData} (MG : MC P w K mg base R "go_on" 1 ["self", "can_stand"] [] [] (spGo R) f2 fd2) {fd3 : FuncData} (CK : Cal P w K mg base "are_keys" 3 ["thing"] spAreKeys f3 fd3) : FnOk P w K mg base CX0 4 f fd ["self"] (spKeysH R) := by
  refine F.ok (k := 3) scKeysH (fun vs H Q E h => ?_) (fun cdv A outer s H vs Q E hr h => ?_)
  · obtain ⟨r, lw, ws, pl, op, ks, rfl, _⟩ := h
    rfl
  · obtain ⟨r, lw, ws, pl, op, ks, rfl, h, hx, hl, k1, k8, nd, hk, q⟩ := h
    have hu := hu_of hr
    refine ⟨_, (pss_cons (ps_set (i := 1) scKeysH.nd rfl (Or.inl rfl) (pe_bm PySem.F.plainAttrs_str PySem.F.slot_str_split PySem.F.type_str_split mt_split (pe_meth0 (pv 0) MH.cl MH.mt MH.ok (hr.mono (by decide)) MH.bd MH.dv pass0) (pa_kons pe_str pa_nil)))
      (pss_cons (ps_expr (pe_meth (pv 0) MG.cl MG.mt MG.ok (hr.mono (by decide)) MG.bd MG.dv pass0 (pa_kons (pe_call CK.ok (hr.mono (by decide)) rfl CK.nm CK.kp CK.bd .nil pass0 (pa_kons (pv 1) pa_nil)) pa_nil)))
      (pss_one (ps_ret (pv 1))))), ?_⟩
    obtain ⟨dx, ho⟩ := h.ob
    have es : Txt.split (Txt.join (Str.ofString ",") ks) (Str.ofString ",") = ks := by
      rw [comma_eq]
      exact split_join (fun z => by rw [z] at k1; cases k1) fun w hw => comma_not (hk w hw).1
    refine rd_seq (rd_asg ⟨_, rfl, r, dx, _, rfl, ho, rf_no _ _ _ (by decide +kernel) (by decide +kernel) (by decide +kernel), r, lw, ws, pl, op, _, rfl, h, hx, rfl, _, _, rfl, rfl, by rfl, hl, by rw [es]; exact Nat.le_of_lt (small1000 (by omega)), fun p np => ?_⟩)
    rw [es]
    obtain ⟨g1, e1⟩ := laid (o := .lst (ks.map V.str)) np
    dsimp only [gName, List.set_cons_zero, List.set_cons_succ]
    generalize upd H p _ = H1 at g1 e1 ⊢
    have h1 := h.keep g1
    obtain ⟨dx1, ho1⟩ := h1.ob
    have npr : p ≠ r := fun z => by rw [z, ho] at np; cases np
    refine rd_seq (rd_expr ⟨_, rfl, r, dx1, _, rfl, ho1, rf_no _ _ _ (by decide +kernel) (by decide +kernel) (by decide +kernel), _, rfl, p, ks, rfl, e1, k1, k8, nd, hk, fun H2 g2 => ⟨r, lw, ws, pl, op, rfl, h1.keep g2, fun H3 o3 h3 => ?_⟩⟩)
    exact rd_ret ⟨_, rfl, q p H3 np (fun b o e n => o3 _ _ (g2 _ _ (g1 _ _ e)) n) (o3 _ _ (g2 _ _ e1) npr) h3⟩
end
section
variable {P : Program} {w : World} {K : PySem.W.Frag} {mg : Str → Option Value} {base : Heap}
theorem scEnd : FnScope ["self"] ["self"] (defScope sEnd) := ⟨rfl, rfl, rfl, by decide +kernel, rfl, by decide +kernel, by decide +kernel⟩
theorem ok_end {f R : Addr} {fd : FuncData} (F : Fun K "check_end" "Reader.check_end" sEnd f fd) (N : Free mg) (T : RdC K R) : FnOk P w K mg base CX0 1 f fd ["self"] (spEnd R) := by
  refine F.ok (k := 0) scEnd (fun vs H Q E h => ?_) (fun cdv A outer s H vs Q E hr h => ?_)
  · obtain ⟨r, lw, ws, op, rfl, _⟩ := h
    rfl
  · obtain ⟨r, lw, ws, op, rfl, ⟨⟨dx, ho⟩, hw⟩, q⟩ := h
    have hu := hu_of hr
    refine ⟨_, (pss_one (ps_if (pt_cmpR op_lt (pe_fld (pv 0) rfl) (pe_callB call_len_seq (by rfl) N.len PySem.boot_len (pa_kons (pe_fld (pv 0) rfl) pa_nil)) (nomark _)) (pss_one ps_never) pss_nil)), ?_⟩
    have at0 : SqL K H lw (ws.map V.str) := SqL.of hw
    refine rd_if ⟨_, rfl, r, R, dx, _, _, rfl, ho, T.cl, T.n2, rf_p _ _ _, _, rfl, r, R, dx, _, _, rfl, ho, T.cl, T.n1, rf_w _ _ _, lw, _, rfl, .inl at0, _, _, rfl, rfl, _, rfl, ?_⟩
    rw [List.length_map, decide_eq_false (by omega)]
    exact iteF (rd_next q)
end
end Mine
namespace Mine
open PySem L2
abbrev sInitR : Stmt := inClass (top 39) 0
theorem space_eq : Str.ofString " " = (⟨#[32]⟩ : Str) := by decide +kernel
theorem rf_new (lw : Addr) (pl op : Int) : putF "opened" (.int op) (putF "place" (.int pl) (putF "words" (.ref lw) [])) = rflds lw pl op := rfl
def spInitR (R : Addr) : Sp := fun vs H Q _ => ∃ (x dx : Addr) (ws : List Str), vs = [.ref x, .str (Txt.join (Str.ofString " ") ws)] ∧ H x = some (.ins R dx []) ∧ ws ≠ [] ∧ ws.length ≤ 900 ∧ (∀ w ∈ ws, 32 ∉ w.cps.toList) ∧ (Txt.join (Str.ofString " ") ws).length ≤ sizeLine ∧ ∀ (lw : Addr) (H' : Hp), H lw = none → (∀ b o, H b = some o → b ≠ x → H' b = some o) → RdAt R H' x lw ws 0 0 → Q .non H'
section
variable {P : Program} {w : World} {K : PySem.W.Frag} {mg : Str → Option Value} {base : Heap}
theorem scInitR : FnScope ["self", "text"] ["self", "text"] (defScope sInitR) := ⟨rfl, rfl, rfl, by decide +kernel, rfl, by decide +kernel, by decide +kernel⟩
theorem ok_initR {f R : Addr} {fd : FuncData} (F : Fun K "__init__" "Reader.__init__" sInitR f fd) (N : Free mg) (T : RdC K R) : FnOk P w K mg base CX0 1 f fd ["self", "text"] (spInitR R) := by
  refine F.ok (k := 0) scInitR (fun vs H Q E h => ?_) (fun cdv A outer s H vs Q E hr h => ?_)
  · obtain ⟨x, dx, ws, rfl, _⟩ := h
    rfl
  · obtain ⟨x, dx, ws, rfl, hx, hne, hl, hf, hs, q⟩ := h
    have hu := hu_of hr
    refine ⟨_, (pss_cons (ps_fld (pv 0) (pe_bm PySem.F.plainAttrs_str PySem.F.slot_str_split PySem.F.type_str_split mt_split (pv 1) (pa_kons pe_str pa_nil)) rfl)
      (pss_cons (ps_fld (pv 0) pe_int rfl)
      (pss_one (ps_fld (pv 0) pe_int rfl)))), ?_⟩
    have es : Txt.split (Txt.join (Str.ofString " ") ws) (Str.ofString " ") = ws := by
      rw [space_eq]
      exact split_join hne hf
    refine rd_seq ⟨_, rfl, rfl, _, _, rfl, rfl, by rfl, hs, by rw [es]; exact Nat.le_of_lt (small1000 (by omega)), fun lw nlw => ?_⟩
    rw [es]
    obtain ⟨g1, e1⟩ := laid (o := .lst (ws.map V.str)) nlw
    have hx1 := g1 _ _ hx
    have hlx : lw ≠ x := fun z => by rw [z, hx] at nlw; cases nlw
    generalize upd H lw _ = H1 at g1 e1 hx1 ⊢
    refine ⟨_, rfl, x, R, dx, _, rfl, hx1, T.cl, T.n1, (by show 0 < 1000; decide), ?_⟩
    refine rd_seq ⟨_, rfl, x, R, dx, _, rfl, upd_same, T.cl, T.n2, (by show 1 < 1000; decide), ?_⟩
    refine ⟨_, rfl, x, R, dx, _, rfl, upd_same, T.cl, T.n3, (by show 2 < 1000; decide), ?_⟩
    rw [upd_upd, upd_upd, rf_new]
    exact q lw _ nlw (fun b o e n => by rw [upd_ne n]; exact g1 _ _ e) ⟨⟨dx, upd_same⟩, by rw [upd_ne hlx]; exact e1⟩
end
end Mine
namespace Mine
open PySem L2
abbrev sBeg : Stmt := inClass (top 39) 3
abbrev sglW : List Str := [Str.ofString "number", Str.ofString "value", Str.ofString "since", Str.ofString "part", Str.ofString "change"]
abbrev gthW : List Str := [Str.ofString "sum", Str.ofString "count", Str.ofString "least", Str.ofString "greatest"]
abbrev rckW : List Str := [Str.ofString "plus", Str.ofString "minus"]
abbrev chcW : List Str := [Str.ofString "less", Str.ofString "same"]
structure ConT (K : PySem.W.Frag) (mg : Str → Option Value) : Prop where
  sgl : ∃ a, mg "SINGLE" = some (.ref a) ∧ ∀ H, SqT K H a (sglW.map V.str)
  gth : ∃ a, mg "GATHERING" = some (.ref a) ∧ ∀ H, SqT K H a (gthW.map V.str)
  rck : ∃ a, mg "RECKONING" = some (.ref a) ∧ ∀ H, SqT K H a (rckW.map V.str)
  chc : ∃ a, mg "CHOICE" = some (.ref a) ∧ ∀ H, SqT K H a (chcW.map V.str)
def spBeg (R : Addr) : Sp := fun vs H Q _ => ∃ (r lw : Addr) (ws : List Str) (pl : Nat) (op : Int) (w : Str), vs = [.ref r] ∧ RdAt R H r lw ws pl op ∧ ws[pl]? = some w ∧ (w ∈ sglW ∨ w ∈ gthW ∨ w ∈ rckW ∨ w ∈ chcW) ∧ ∀ H', Ofr r H H' → RdAt R H' r lw ws (pl + 1) op → Q (.str w) H'
theorem flat_strs (xs : List Str) : (xs.map V.str).all flatV = true := by
  rw [List.all_map, List.all_eq_true]; intro _ _; rfl
section
variable {P : Program} {w : World} {K : PySem.W.Frag} {mg : Str → Option Value} {base : Heap}
theorem scBeg : FnScope ["self", "word"] ["self"] (defScope sBeg) := ⟨rfl, rfl, rfl, by decide +kernel, rfl, by decide +kernel, by decide +kernel⟩
theorem ok_beg {f f1 f2 R : Addr} {fd : FuncData} (F : Fun K "beginning_here" "Reader.beginning_here" sBeg f fd) (N : Free mg) (ZT : ConT K mg) (T : RdC K R) {fd1 : FuncData} (MH : MC P w K mg base R "here" 1 ["self"] [] [] (spHere R) f1 fd1) {fd2 : FuncData} (MG : MC P w K mg base R "go_on" 1 ["self", "can_stand"] [] [] (spGo R) f2 fd2) : FnOk P w K mg base CX0 2 f fd ["self"] (spBeg R) := by
  obtain ⟨a1, c1, q1⟩ := ZT.sgl
  obtain ⟨a2, c2, q2⟩ := ZT.gth
  obtain ⟨a3, c3, q3⟩ := ZT.rck
  obtain ⟨a4, c4, q4⟩ := ZT.chc
  refine F.ok (k := 1) scBeg (fun vs H Q E h => ?_) (fun cdv A outer s H vs Q E hr h => ?_)
  · obtain ⟨r, lw, ws, pl, op, w, rfl, _⟩ := h
    rfl
  · obtain ⟨r, lw, ws, pl, op, w, rfl, h, hx, hw, q⟩ := h
    have hu := hu_of hr
    refine ⟨_, (pss_cons (ps_set (i := 1) scBeg.nd rfl (Or.inl rfl) (pe_meth0 (pv 0) MH.cl MH.mt MH.ok (hr.mono (by decide)) MH.bd MH.dv pass0))
      (pss_cons (ps_expr (pe_meth (pv 0) MG.cl MG.mt MG.ok (hr.mono (by decide)) MG.bd MG.dv pass0 (pa_kons (pe_or (pe_cmpR op_in_seq (pv 1) (pe_glob (v := .ref a1) (by rfl) c1 rfl) (by with_unfolding_all rfl)) (pe_or (pe_cmpR op_in_seq (pv 1) (pe_glob (v := .ref a2) (by rfl) c2 rfl) (by with_unfolding_all rfl)) (pe_or (pe_cmpR op_in_seq (pv 1) (pe_glob (v := .ref a3) (by rfl) c3 rfl) (by with_unfolding_all rfl)) (pe_one (pe_cmpR op_in_seq (pv 1) (pe_glob (v := .ref a4) (by rfl) c4 rfl) (by with_unfolding_all rfl)))))) pa_nil)))
      (pss_one (ps_ret (pv 1))))), ?_⟩
    obtain ⟨dx, ho⟩ := h.ob
    refine rd_seq (rd_asg ⟨_, rfl, r, dx, _, rfl, ho, rf_no _ _ _ (by decide +kernel) (by decide +kernel) (by decide +kernel), r, lw, ws, pl, op, w, rfl, h, hx, ?_⟩)
    dsimp only [gName, List.set_cons_zero, List.set_cons_succ]
    refine rd_seq (rd_expr ⟨_, rfl, r, dx, _, rfl, ho, rf_no _ _ _ (by decide +kernel) (by decide +kernel) (by decide +kernel), _, rfl, a1, _, rfl, .inr (q1 _), rfl, flat_strs _, ?_⟩)
    rw [if_neg Bool.false_ne_true, inV_str]
    refine ⟨_, rfl, ?_⟩
    by_cases z1 : w ∈ sglW
    · rw [decide_eq_true z1]
      refine iteT ?_
      exact ⟨r, lw, ws, pl, op, rfl, h, fun H1 o1 h1 => rd_ret ⟨_, rfl, q H1 o1 h1⟩⟩
    rw [decide_eq_false z1]
    refine iteF ⟨_, rfl, a2, _, rfl, .inr (q2 _), rfl, flat_strs _, ?_⟩
    rw [if_neg Bool.false_ne_true, inV_str]
    refine ⟨_, rfl, ?_⟩
    by_cases z2 : w ∈ gthW
    · rw [decide_eq_true z2]
      refine iteT ?_
      exact ⟨r, lw, ws, pl, op, rfl, h, fun H1 o1 h1 => rd_ret ⟨_, rfl, q H1 o1 h1⟩⟩
    rw [decide_eq_false z2]
    refine iteF ⟨_, rfl, a3, _, rfl, .inr (q3 _), rfl, flat_strs _, ?_⟩
    rw [if_neg Bool.false_ne_true, inV_str]
    refine ⟨_, rfl, ?_⟩
    by_cases z3 : w ∈ rckW
    · rw [decide_eq_true z3]
      refine iteT ?_
      exact ⟨r, lw, ws, pl, op, rfl, h, fun H1 o1 h1 => rd_ret ⟨_, rfl, q H1 o1 h1⟩⟩
    rw [decide_eq_false z3]
    have z4 : w ∈ chcW := ((hw.resolve_left z1).resolve_left z2).resolve_left z3
    refine iteF ⟨_, rfl, a4, _, rfl, .inr (q4 _), rfl, flat_strs _, ?_⟩
    rw [if_neg Bool.false_ne_true, inV_str, decide_eq_true z4]
    exact ⟨r, lw, ws, pl, op, rfl, h, fun H1 o1 h1 => rd_ret ⟨_, rfl, q H1 o1 h1⟩⟩
end
end Mine
namespace L2
open PySem PySem.Spec PyProof.Rows
theorem pe_clsM {X : Cx} {CX : CXT} {cn m : Str} {C f : Addr} {mc : Value} {k : Nat} {fd : FuncData} {ps : List Str} {sp : Sp} {ds : List Value} {dvs : List V} {E : XK} {e : Expr} {es : List Expr} {t : TA} {p apos pos : Pos} {pl : Sem Bool} (hg : Gl X cn) (hmg : X.mg cn = some (.ref C))
    (h1 : PySem.W.specialIn X.K (.ref C) "__getattribute__" = some (some (.builtin "type.__getattribute__"))) (h2 : PySem.W.readsIn X.K C mc = true) (h3 : PySem.W.findCls X.K (.ref C) mc m = some (.val (.ref f))) (h4 : PySem.W.handedIn (.ref f) = true)
    (F : FnOk X.prog X.w X.K X.mg X.base CX k f fd ps sp) (hr : Room k X.A) (hk : PySem.W.keepIn X.K (.ref f) = true) (hb : Binds X.K fd ps ds) (hd : Vals dvs ds) (hx : Passes CX X E) (ha : PA X (e :: es) t)
    (hst : starEach (e :: es) X.env = (false, eval e X.env) :: starEach es X.env := by rfl) (hpl : (backTo pos (starEach es X.env)).any (·.1) = false := by rfl)
    (ht : eval (.Call (.Attribute (.Name cn p) m apos) (e :: es) [] pos) X.env = (do
      let ov ← eval (.Name cn p) X.env
      standAt apos.atName
      let (f, first) ← holding [ov] (getMethod ov m pl)
      callWith pos f first (backTo pos (starEach (e :: es) X.env)) (backToKw pos (keywordEach [] X.env))) := by rfl)
    (hdb : (cn == ("__debug__" : Str)) = false := by decide) : PE X (.Call (.Attribute (.Name cn p) m apos) (e :: es) [] pos) (tCall sp dvs E t) := by
  intro pins s σ H Q I h
  refine PySem.W.methodCall_KW (pl := pl) (ld_glob I hg hmg ?_ hdb) ht
  refine PySem.W.method_cls I.kIn h1 (PySem.W.cls_value I.kIn h2 h3 h4 ?_)
  refine PySem.W.callWith_K (first := []) (h₀ := X.base) I.ok.mod.kin hk (thn (ha pos pins _ σ H _ (I.tok (s.toks + 1)) h) fun us s2 ⟨vs, H2, I2, r, q2⟩ => ⟨I2.kIn, ?_⟩) hst hpl
  exact run_fn F hr hb hd hx I2 r q2
end L2
namespace Mine
open PySem L2
abbrev sInitQ : Stmt := inClass (top 17) 0
def qNames : List Str := [Str.ofString "written", Str.ofString "names", Str.ofString "levels", Str.ofString "number", Str.ofString "key", Str.ofString "day", Str.ofString "word", Str.ofString "first", Str.ofString "last", Str.ofString "bound", Str.ofString "one", Str.ofString "other", Str.ofString "rank", Str.ofString "inner"]
structure QuC (K : PySem.W.Frag) (C : Addr) : Prop where
  cl : Cls K C
  no : ∀ f ∈ qNames, NoAttr K C f
theorem QuC.a_written {K : PySem.W.Frag} {C : Addr} (T : QuC K C) : NoAttr K C "written" := T.no _ (by decide +kernel)
theorem QuC.a_names {K : PySem.W.Frag} {C : Addr} (T : QuC K C) : NoAttr K C "names" := T.no _ (by decide +kernel)
theorem QuC.a_levels {K : PySem.W.Frag} {C : Addr} (T : QuC K C) : NoAttr K C "levels" := T.no _ (by decide +kernel)
theorem QuC.a_number {K : PySem.W.Frag} {C : Addr} (T : QuC K C) : NoAttr K C "number" := T.no _ (by decide +kernel)
theorem QuC.a_key {K : PySem.W.Frag} {C : Addr} (T : QuC K C) : NoAttr K C "key" := T.no _ (by decide +kernel)
theorem QuC.a_day {K : PySem.W.Frag} {C : Addr} (T : QuC K C) : NoAttr K C "day" := T.no _ (by decide +kernel)
theorem QuC.a_word {K : PySem.W.Frag} {C : Addr} (T : QuC K C) : NoAttr K C "word" := T.no _ (by decide +kernel)
theorem QuC.a_first {K : PySem.W.Frag} {C : Addr} (T : QuC K C) : NoAttr K C "first" := T.no _ (by decide +kernel)
theorem QuC.a_last {K : PySem.W.Frag} {C : Addr} (T : QuC K C) : NoAttr K C "last" := T.no _ (by decide +kernel)
theorem QuC.a_bound {K : PySem.W.Frag} {C : Addr} (T : QuC K C) : NoAttr K C "bound" := T.no _ (by decide +kernel)
theorem QuC.a_one {K : PySem.W.Frag} {C : Addr} (T : QuC K C) : NoAttr K C "one" := T.no _ (by decide +kernel)
theorem QuC.a_other {K : PySem.W.Frag} {C : Addr} (T : QuC K C) : NoAttr K C "other" := T.no _ (by decide +kernel)
theorem QuC.a_rank {K : PySem.W.Frag} {C : Addr} (T : QuC K C) : NoAttr K C "rank" := T.no _ (by decide +kernel)
theorem QuC.a_inner {K : PySem.W.Frag} {C : Addr} (T : QuC K C) : NoAttr K C "inner" := T.no _ (by decide +kernel)
def spInitQ (K : PySem.W.Frag) : Sp := fun vs H Q _ => ∃ (x C dx lw lk : Addr) (fs : List (Str × V)) (ws ks : List Str) (d : Int), vs = [.ref x, .ref lw, .ref lk, .int d] ∧ QuC K C ∧ H x = some (.ins C dx fs) ∧ fs.length < 100 ∧ H lw = some (.lst (ws.map V.str)) ∧ SqL K H lk (ks.map V.str) ∧ ks.length ≤ 900 ∧ (ws.map (·.length)).sum + ws.length * (Str.ofString " ").length ≤ 16777216 ∧
  ∀ (ln : Addr) (H' : Hp), H ln = none → (∀ b o, H b = some o → b ≠ x → H' b = some o) → H' ln = some (.lst ((onceL ks).map V.str)) → H' x = some (.ins C dx (putF "levels" (.int d) (putF "names" (.ref ln) (putF "written" (.str (Txt.join (Str.ofString " ") ws)) fs)))) → Q .non H'
theorem sql_but {K : PySem.W.Frag} {H : Hp} {a x C dx : Addr} {xs : List V} {fs fs' : List (Str × V)} (h : SqL K H a xs) (hx : H x = some (.ins C dx fs)) : SqL K (upd H x (.ins C dx fs')) a xs := by
  rcases h with (e | ⟨u, e⟩) | e
  · exact .inl (.inl (by rw [upd_ne (ne_of e hx (fun z => nomatch z))]; exact e))
  · exact .inl (.inr ⟨u, by rw [upd_ne (ne_of e hx (fun z => nomatch z))]; exact e⟩)
  · exact .inr e
section
variable {P : Program} {w : World} {K : PySem.W.Frag} {mg : Str → Option Value} {base : Heap}
theorem scInitQ : FnScope ["self", "words", "keys", "depth"] ["self", "words", "keys", "depth"] (defScope sInitQ) := ⟨rfl, rfl, rfl, by decide +kernel, rfl, by decide +kernel, by decide +kernel⟩
theorem ok_initQ {f f1 : Addr} {fd : FuncData} (F : Fun K "__init__" "Question.__init__" sInitQ f fd) (N : Free mg) {fd1 : FuncData} (CO : Cal P w K mg base "each_once" 1 ["keys"] (spOnce K) f1 fd1) : FnOk P w K mg base CX0 2 f fd ["self", "words", "keys", "depth"] (spInitQ K) := by
  refine F.ok (k := 1) scInitQ (fun vs H Q E h => ?_) (fun cdv A outer s H vs Q E hr h => ?_)
  · obtain ⟨x, C, dx, lw, lk, fs, ws, ks, d, rfl, _⟩ := h
    rfl
  · obtain ⟨x, C, dx, lw, lk, fs, ws, ks, d, rfl, T, hx, hfs, hlw, hlk, hks, hsum, q⟩ := h
    have hu := hu_of hr
    refine ⟨_, (pss_cons (ps_fld (pv 0) (pe_bm PySem.F.plainAttrs_str PySem.F.slot_str_join PySem.F.type_str_join mt_join pe_str (pa_kons (pv 1) pa_nil)) rfl)
      (pss_cons (ps_fld (pv 0) (pe_call CO.ok (hr.mono (by decide)) rfl CO.nm CO.kp CO.bd .nil pass0 (pa_kons (pv 2) pa_nil)) rfl)
      (pss_one (ps_fld (pv 0) (pv 3) rfl)))), ?_⟩
    refine rd_seq ⟨rfl, _, rfl, _, lw, ws, rfl, rfl, hlw, hsum, _, rfl, x, C, dx, _, rfl, hx, T.cl, T.a_written, by omega, ?_⟩
    dsimp only
    have l1 := length_putF "written" (.str (Txt.join (Str.ofString " ") ws)) fs
    refine rd_seq ⟨_, rfl, lk, ks, rfl, sql_but hlk hx, hks, fun ln nln => ?_⟩
    have nlx : ln ≠ x := fun z => by rw [z, upd_same] at nln; cases nln
    have nl0 : H ln = none := by rw [upd_ne nlx] at nln; exact nln
    have l2 := length_putF "names" (.ref ln) (putF "written" (.str (Txt.join (Str.ofString " ") ws)) fs)
    refine ⟨_, rfl, x, C, dx, putF "written" (.str (Txt.join (Str.ofString " ") ws)) fs, rfl, by rw [upd_ne (Ne.symm nlx), upd_same], T.cl, T.a_names, by omega, ?_⟩
    dsimp only
    refine ⟨_, rfl, _, rfl, x, C, dx, _, rfl, upd_same, T.cl, T.a_levels, by omega, ?_⟩
    refine q ln _ nl0 (fun b o e n => ?_) ?_ upd_same
    · rw [upd_ne n, upd_ne n, upd_ne (ne_of_none e nl0), upd_ne n]; exact e
    · rw [upd_ne nlx, upd_ne nlx, upd_same]
end
end Mine
namespace L2
open PySem PySem.Spec PyProof.Rows
theorem valsN : ∀ {ns : List Int} {us : List Value}, Vals (ns.map V.int) us → ∃ xs : List (Int × Tok), us = xs.map (fun p => Value.int p.1 p.2) ∧ xs.map (·.1) = ns
  | [], _, r => by
    cases r
    exact ⟨[], rfl, rfl⟩
  | n :: ns, _, r => by
    cases r with
    | cons a t =>
      obtain ⟨tk, rfl⟩ := a
      obtain ⟨xs, rfl, rfl⟩ := valsN t
      exact ⟨(n, tk) :: xs, rfl, rfl⟩
section
variable {X : Cx}
theorem ints_of {pins : List (Addr × Obj)} {σ : St} {H : Hp} {s : Shared} {a : Addr} {ns : List Int} (I : Inv X pins σ H s) (hS : SqL X.K H a (ns.map V.int)) : ∃ ys : Array (Int × Tok), s.heap.IsList a (intItems ys) ∧ ys.toList.map (·.1) = ns := by
  obtain ⟨its, rv, p, hz⟩ := I.list hS
  obtain ⟨ys, rfl, e⟩ := valsN rv
  refine ⟨ys.toArray, ?_, e⟩
  have h := p.isList
  rw [← List.map_toArray] at h
  exact h
theorem num_size {ys : Array (Int × Tok)} {ns : List Int} (e : ys.toList.map (·.1) = ns) : ys.size = ns.length := by rw [← e, List.length_map, Array.length_toList]
inductive rMaxL (K : PySem.W.Frag) (xs : List V) (H : Hp) (Q : VK) : Prop
  | mk (a : Addr) (ns : List Int) (h1 : xs = [.ref a]) (h2 : SqL K H a (ns.map V.int)) (h3 : ns ≠ []) (h4 : ∀ M, M ∈ ns → (∀ x ∈ ns, x ≤ M) → Q (.int M) H) : rMaxL K xs H Q
theorem call_maxL (hc : X.calm = true) : CallR X (.builtin "max") (rMaxL X.K) := by
  intro pins s σ H xs us Q I r h
  obtain ⟨a, ns, rfl, hS, hne, q⟩ := h
  obtain ⟨u, rfl, ru⟩ := vals1 r
  cases (show u = Value.ref a from ru)
  obtain ⟨ys, hl, e⟩ := ints_of I hS
  have hn := List.length_pos_iff.mpr hne
  have hy := num_size e
  refine max_intList (I.ok.hd hc) hl (by omega) fun v h' tk hv hk => ?_
  obtain ⟨t, rfl⟩ := intItems_at hv
  obtain ⟨h1, h2⟩ := argBest_gt (numAt ys) (ys.size - 1)
  refine ⟨.int _, H, I.kept hk, ⟨_, rfl⟩, q _ ?_ fun x hx => ?_⟩
  · rw [numAt_eq, e]; exact getD_mem (by omega)
  · obtain ⟨j, hj, rfl⟩ := mem_getD hx
    have := h2 j (by omega)
    rw [numAt_eq, e] at this
    exact this
inductive rStrA (xs : List V) (H : Hp) (Q : VK) : Prop
  | int (i : Int) (h1 : xs = [.int i]) (h2 : i.natAbs.log2 < 1920) (h3 : Q (.str (Str.ofString (toString i))) H) : rStrA xs H Q
  | str (x : Str) (h1 : xs = [.str x]) (h3 : Q (.str x) H) : rStrA xs H Q
theorem call_strA : CallR X (.type "str") rStrA := by
  intro pins s σ H xs us Q I r h
  rcases h with ⟨i, rfl, hz, q⟩ | ⟨x, rfl, q⟩
  · obtain ⟨u, rfl, t, rfl⟩ := vals1 r
    exact PySem.P.str_of_int hz ⟨.str _, H, I.tok _, ⟨_, rfl⟩, q⟩
  · obtain ⟨u, rfl, t, rfl⟩ := vals1 r
    exact PySem.P.str_of_str ⟨.str x, H, I, ⟨t, rfl⟩, q⟩
inductive rIsO (K : PySem.W.Frag) (xs : List V) (H : Hp) (Q : VK) : Prop
  | mk (x : V) (D : Addr) (t : Value) (b : Bool) (h1 : xs = [x, .ref D]) (h2 : TyOf K H x t) (h3 : PySem.W.kitOne K t (.ref D) = some b) (h4 : Q (.bl b) H) : rIsO K xs H Q
theorem call_isinstO : CallR X (.builtin "isinstance") (rIsO X.K) := by
  intro pins s σ H xs us Q I r h
  obtain ⟨x, D, t, b, rfl, ty, e, q⟩ := h
  obtain ⟨u, u2, rfl, rx, rt⟩ := vals2 r
  cases (show u2 = Value.ref D from rt)
  exact isinst_ok I rx ty e fun tk => ⟨.bl b, H, I.tok _, rfl, q⟩
end
structure MV (P : Program) (w : World) (K : PySem.W.Frag) (mg : Str → Option Value) (base : Heap) (CX : CXT) (m : Str) (k : Nat) (ps : List Str) (sp : Sp) (C : Addr) : Prop where
  cl : Cls K C
  ex : ∃ f fd, Meth K C m f ∧ FnOk P w K mg base CX k f fd ps sp ∧ Binds K fd ps []
def tMethV (V : Addr → Prop) (m : Str) (sp : Sp) (E : XK) (ta : TE) (t : TA) : TE := fun σ H Q => ta σ H fun x H1 => ∃ a C dx fs, x = .ref a ∧ H1 a = some (.ins C dx fs) ∧ V C ∧ fs.lookup m = none ∧
  t σ H1 fun vs H2 => sp (x :: vs) H2 Q E
section
variable {X : Cx} {CX : CXT} {k : Nat} {ps : List Str} {sp : Sp} {E : XK} {m : Str} {pos apos : Pos} {e o : Expr} {es : List Expr} {ta : TE} {t : TA}
theorem pe_methV0 {V : Addr → Prop} {pl : Sem Bool} (hV : ∀ C, V C → MV X.prog X.w X.K X.mg X.base CX m k ps sp C) (he : PE X o ta) (hr : Room k X.A) (hx : Passes CX X E)
    (ht : eval (.Call (.Attribute o m apos) [] [] pos) X.env = (do
      let ov ← eval o X.env
      standAt apos.atName
      let (f, first) ← holding [ov] (getMethod ov m pl)
      callWith pos f first (backTo pos (starEach [] X.env)) (backToKw pos (keywordEach [] X.env))) := by rfl) :
    PE X (.Call (.Attribute o m apos) [] [] pos) (tMethV V m sp E ta tNil) := by
  intro pins s σ H Q I h
  refine PySem.W.methodCall_KW (pl := pl) (thn (he pins s σ H _ I h) fun u s1 ⟨x, H1, I1, rx, a, C, dx, fs, ex, ea, vc, l, q⟩ => ?_) ht
  obtain ⟨c, f, fd, hm, F, hb⟩ := hV C vc
  subst ex
  obtain rfl : u = Value.ref a := rx
  refine getmeth_ok I1 ea c hm l ?_
  exact PySem.W.callWith_K0 (first := [.ref a]) I1.kIn hm.kp (run_fn (us := [.ref a]) (vs := [.ref a]) (dvs := []) F hr hb .nil hx I1 (.cons rfl .nil) q)
end
section
variable {X : Cx} {T : String} {name : Str} {id : String} {r : V → List V → Hp → VK → Prop} {o e : Expr} {es : List Expr} {to : TE} {t : TA} {apos cpos : Pos}
theorem pe_bmK {K : PySem.W.Frag} (hK : X.K = K) (pa : PlainAttrs T) (slot : Slot T name id) (hty : typeOf (.builtin id) = pure (.type "method_descriptor")) (hm : MtR X id r) (ho : PE X o to) (ha : PA X (e :: es) t)
    (hbase : attributeBase o name X.env (eval o X.env) = eval o X.env := by rfl)
    (hfew : ((backTo cpos (starEach (e :: es) X.env)).all (fun x => !x.1) && (backToKw cpos (keywordEach [] X.env)).all (fun x => x.1.isSome)
      && decide ((e :: es).length + ([] : List Keyword).length + (if ([] : List Keyword).isEmpty then 0 else 1) < 30)) = true := by rfl)
    (hline : (apos.endLine == cpos.line) = true := by rfl) (hs : starEach (e :: es) X.env = (false, eval e X.env) :: starEach es X.env := by rfl) (hplain : (backTo cpos (starEach es X.env)).any (·.1) = false := by rfl) :
    PE X (.Call (.Attribute o name apos) (e :: es) [] cpos) (tBM K T r to t) := by
  subst hK
  exact pe_bm pa slot hty hm ho ha hbase hfew hline hs hplain
end
def rIs (K : PySem.W.Frag) : List V → Hp → VK → Prop := fun xs H Q => ∃ x n t b, xs = [x, .ty n] ∧ TyOf K H x t ∧ PySem.W.kitOne K t (.type n) = some b ∧ Q (.bl b) H
theorem FnOk.ex {P : Program} {w : World} {K : PySem.W.Frag} {mg : Str → Option Value} {base : Heap} {CX : CXT} {k : Nat} {f : Addr} {fd : FuncData} {ps : List Str} {sp : Nat → Sp} {N : Nat} (h : ∀ n, n ≤ N → FnOk P w K mg base CX k f fd ps (sp n)) : FnOk P w K mg base CX k f fd ps (fun vs H Q E => ∃ n, n ≤ N ∧ sp n vs H Q E) :=
  ⟨fun vs H Q E ⟨n, hn, q⟩ => (h n hn).len vs H Q E q, fun A outer s H args us vs Q E hr he hb hv ⟨n, hn, q⟩ => (h n hn).run A outer s H args us vs Q E hr he hb hv q⟩
theorem FnOk.no {P : Program} {w : World} {K : PySem.W.Frag} {mg : Str → Option Value} {base : Heap} {CX : CXT} {k : Nat} {f : Addr} {fd : FuncData} {ps : List Str} {sp : Sp} (h : ∀ vs H Q E, ¬ sp vs H Q E) : FnOk P w K mg base CX k f fd ps sp :=
  ⟨fun vs H Q E q => absurd q (h vs H Q E), fun A outer s H args us vs Q E hr he hb hv q => absurd q (h vs H Q E)⟩
structure CMc (P : Program) (w : World) (K : PySem.W.Frag) (mg : Str → Option Value) (base : Heap) (cn m : Str) (k : Nat) (ps : List Str) (sp : Sp) (C f : Addr) (fd : FuncData) (mc : Value) : Prop where
  nm : mg cn = some (.ref C)
  h1 : PySem.W.specialIn K (.ref C) "__getattribute__" = some (some (.builtin "type.__getattribute__"))
  h2 : PySem.W.readsIn K C mc = true
  h3 : PySem.W.findCls K (.ref C) mc m = some (.val (.ref f))
  ok : FnOk P w K mg base CX0 k f fd ps sp
  kp : PySem.W.keepIn K (.ref f) = true
  bd : Binds K fd ps []
theorem comp_tup {K : PySem.W.Frag} {a D : Addr} {xs : List V} {σ : St} {sub : List Nat} {tt : TT} {te : TE} {Q : VK} {H : Hp} (Pv : Nat → List V → Hp → Prop) (h0 : Pv 0 [] (upd H D (.lst []))) (hl : ∀ i ys H, i ≤ xs.length → Pv i ys H → SqT K H a xs)
    (hs : ∀ i x ys H, xs[i]? = some x → Pv i ys H → tt (some x :: subσ sub σ) H fun b H4 => if b = true then te (some x :: subσ sub σ) H4 fun y H5 => H5 D = some (.lst ys) ∧ ys.length < sizeLine ∧ Pv (i + 1) (ys ++ [y]) (upd H5 D (.lst (ys ++ [y]))) else Pv (i + 1) ys H4)
    (hd : ∀ ys H, Pv xs.length ys H → Q (.ref D) H) :
    ∃ W : Nat → Nat → List V → Hp → Prop, (∃ m, W 0 m [] (upd H D (.lst []))) ∧ ∀ i m ys H2, W i m ys H2 →
      ((Itt K a).stop i H2 ∧ Q (.ref D) H2) ∨ ((Itt K a).go i H2 ∧ ∃ N : List V → Hp → Prop, (∀ ys' H', N ys' H' → ∃ m', m' < m ∧ W (i + 1) m' ys' H') ∧ ∀ v H3, (Itt K a).yld i H2 v H3 → tt (some v :: subσ sub σ) H3 fun b H4 => if b = true then
        te (some v :: subσ sub σ) H4 fun y H5 => H5 D = some (.lst ys) ∧ ys.length < sizeLine ∧ N (ys ++ [y]) (upd H5 D (.lst (ys ++ [y])))
        else N ys H4) := by
  refine ⟨fun i m ys H => m = xs.length - i ∧ i ≤ xs.length ∧ Pv i ys H, ⟨xs.length, rfl, Nat.zero_le _, h0⟩, ?_⟩
  rintro i m ys H ⟨rfl, hi, p⟩
  have q := hl i ys H hi p
  by_cases hlt : i < xs.length
  · refine .inr ⟨⟨xs, xs[i], q, by simp [hlt]⟩, Pv (i + 1), fun ys' H' p' => ⟨xs.length - (i + 1), by omega, rfl, hlt, p'⟩, fun x H' y => ?_⟩
    obtain ⟨e, y⟩ := y
    subst e
    exact hs i x ys _ (y xs q) p
  · have e : i = xs.length := by omega
    subst e
    exact .inl ⟨⟨xs, q, Nat.le_refl _⟩, hd ys H p⟩
theorem compB_tupM {K : PySem.W.Frag} {ta : Addr} {xs : List V} {sub : List Nat} {te : TE} {σ : St} {Q : VK} {H : Hp} (g : V → V) (hn : xs.length < 1000) (ha : H ta = some (.tup xs)) (hte : ∀ (x : V) (H2 : Hp) (R : VK), x ∈ xs → (∀ b o, H b = some o → H2 b = some o) → R (g x) H2 → te (some x :: subσ sub σ) H2 R)
    (hq : ∀ (D : Addr), H D = none → Q (.ref D) (upd H D (.lst (xs.map g)))) : CompB (Itt K ta) sub (fun _ H Q => Q true H) te σ Q H := by
  intro D nD
  have nl : ta ≠ D := ne_of_none ha nD
  refine comp_tup (K := K) (a := ta) (xs := xs) (sub := sub) (tt := fun _ H Q => Q true H) (te := te) (Q := Q) (σ := σ) (fun i ys H2 => ys = (xs.take i).map g ∧ H2 = upd H D (.lst ys)) ⟨by rw [List.take_zero]; rfl, rfl⟩ (fun i ys H2 _ hh => ?_) (fun i x ys H2 hi hh => ?_) fun ys H2 hh => ?_
  · obtain ⟨_, rfl⟩ := hh
    exact SqT.of (by rw [upd_ne nl]; exact ha)
  · obtain ⟨rfl, rfl⟩ := hh
    refine iteT (hte x _ _ (List.mem_of_getElem? hi) (fun b o e => by rw [upd_ne (ne_of_none e nD)]; exact e) ⟨upd_same, ?_, ?_, upd_upd⟩)
    · rw [List.length_map, List.length_take]; exact small1000 (by omega)
    · rw [List.take_add_one, hi, List.map_append]; rfl
  · obtain ⟨rfl, rfl⟩ := hh
    rw [List.take_length]
    exact hq D nD
end L2
namespace Mine
open PySem L2
open PySem.W PySem.W.KIN PySem.NumText
abbrev si (i : Int) : Str := Str.ofString (toString i)
theorem dig_all (m : Nat) : AllDigits ((Nat.toDigits 10 m).map Char.toNat) := fun c hc => by
  obtain ⟨ch, hch, e⟩ := List.mem_map.mp hc
  rw [← e]
  exact PyProof.Rows.digit_range (Nat.isDigit_of_mem_toDigits (by decide) (by decide) hch)
theorem dig_ne (m : Nat) : (Nat.toDigits 10 m).map Char.toNat ≠ [] := fun e => by
  have h := Nat.length_toDigits_pos (b := 10) (n := m)
  rw [List.map_eq_nil_iff.mp e] at h
  exact absurd h (by decide)
theorem dig_len {m : Nat} (h : m < 10 ^ 10) : ((Nat.toDigits 10 m).map Char.toNat).length ≤ 10 := by
  have := KT.len_num (n := (m : Int)) (by omega) (by omega)
  rw [len_cps, signs_pos] at this
  exact this
theorem fig_in {c : Nat} (h : 48 ≤ c ∧ c ≤ 57) : inZ figZ c = true := by
  rcases (show c = 48 ∨ c = 49 ∨ c = 50 ∨ c = 51 ∨ c = 52 ∨ c = 53 ∨ c = 54 ∨ c = 55 ∨ c = 56 ∨ c = 57 by omega) with rfl | rfl | rfl | rfl | rfl | rfl | rfl | rfl | rfl | rfl <;> decide +kernel
theorem si_figs {z : Int} (h0 : -1000000000 ≤ z) (h1 : z ≤ 1000000000) : figs (si z) = (Nat.toDigits 10 z.natAbs).map Char.toNat ∧ valI (si z) = z ∧ ((si z).cps.toList = (Nat.toDigits 10 z.natAbs).map Char.toNat ∨ (si z).cps.toList = 45 :: (Nat.toDigits 10 z.natAbs).map Char.toNat) := by
  by_cases hz : 0 ≤ z
  · obtain ⟨m, rfl⟩ := Int.eq_ofNat_of_zero_le hz
    have e := signs_pos m
    have hn : negX (si (m : Int)) = false := by
      unfold negX
      rw [e]
      cases hd : (Nat.toDigits 10 m).map Char.toNat with
      | nil => exact absurd hd (dig_ne m)
      | cons c r =>
        have := dig_all m c (by rw [hd]; exact List.mem_cons_self)
        refine decide_eq_false fun z => ?_
        have : c = 45 := Option.some.inj z
        omega
    have ef : figs (si (m : Int)) = (Nat.toDigits 10 m).map Char.toNat := by unfold figs; rw [hn, ← e]; rfl
    refine ⟨ef, ?_, .inl e⟩
    unfold valI
    rw [hn, ef, val_back]
    rfl
  · obtain ⟨m, rfl⟩ : ∃ m : Nat, z = -(m : Int) := ⟨z.natAbs, by omega⟩
    have hm : 0 < m := by omega
    have e := signs_negS m hm
    have hn : negX (si (-(m : Int))) = true := by
      unfold negX
      rw [e]
      rfl
    have ea : (-(m : Int)).natAbs = m := by omega
    have ef : figs (si (-(m : Int))) = (Nat.toDigits 10 m).map Char.toNat := by unfold figs; rw [hn, e]; rfl
    rw [ea]
    refine ⟨ef, ?_, .inr e⟩
    unfold valI
    rw [hn, ef, val_back]
    rfl
theorem si_good {z : Int} (h0 : -1000000000 ≤ z) (h1 : z ≤ 1000000000) : goodF (si z) = true := by
  obtain ⟨ef, _, _⟩ := si_figs h0 h1
  have hl := dig_len (m := z.natAbs) (by omega)
  have hp := List.length_pos_iff.mpr (dig_ne z.natAbs)
  unfold goodF hasB
  rw [figS_len, ef, decide_eq_true (by omega), decide_eq_true (by omega), Bool.true_and, Bool.true_and]
  show ((figs (si z)).toArray.toList.all (inZ figZ)) = true
  rw [List.toList_toArray, ef]
  exact List.all_eq_true.mpr fun c hc => fig_in (dig_all _ c hc)
theorem si_num {z lo hi : Int} (h0 : -1000000000 ≤ z) (h1 : z ≤ 1000000000) (h2 : lo ≤ z) (h3 : z ≤ hi) : numV (si z) lo hi = .int z := by
  obtain ⟨_, ev, _⟩ := si_figs h0 h1
  unfold numV
  rw [ev, if_pos ⟨⟨si_good h0 h1, rfl⟩, h2, h3⟩]
def Sgn (c : Nat) : Prop := c = 44 ∨ c = 45 ∨ (48 ≤ c ∧ c ≤ 57) ∨ (97 ≤ c ∧ c ≤ 122)
structure Wd (w : Str) : Prop where
  lo : 1 ≤ w.length
  hi : w.length ≤ 79
  sg : ∀ c ∈ w.cps.toList, Sgn c
theorem si_wd {z : Int} (h0 : -1000000000 ≤ z) (h1 : z ≤ 1000000000) : Wd (si z) := by
  obtain ⟨_, _, e⟩ := si_figs h0 h1
  have hl := dig_len (m := z.natAbs) (by omega)
  have hp := List.length_pos_iff.mpr (dig_ne z.natAbs)
  rcases e with e | e
  · refine ⟨by rw [len_cps, e]; omega, by rw [len_cps, e]; omega, fun c hc => ?_⟩
    rw [e] at hc
    exact .inr (.inr (.inl (dig_all _ c hc)))
  · refine ⟨by rw [len_cps, e, List.length_cons]; omega, by rw [len_cps, e, List.length_cons]; omega, fun c hc => ?_⟩
    rw [e] at hc
    rcases List.mem_cons.mp hc with z | hc
    · exact .inr (.inl z)
    · exact .inr (.inr (.inl (dig_all _ c hc)))
theorem let_in : ∀ c ∈ letZ.cps.toList, 97 ≤ c ∧ c ≤ 122 := by decide +kernel
theorem nm_of {k : Str} (h : hasB k letZ 8 = true) : 1 ≤ k.length ∧ k.length ≤ 8 ∧ ∀ c ∈ k.cps.toList, 97 ≤ c ∧ c ≤ 122 := by
  unfold hasB at h
  rw [Bool.and_eq_true, Bool.and_eq_true] at h
  obtain ⟨h1, h2, h3⟩ := h
  have h1 := of_decide_eq_true h1
  have h2 := of_decide_eq_true h2
  exact ⟨by omega, by omega, fun c hc => let_in c (of_decide_eq_true (List.all_eq_true.mp h3 c hc))⟩
theorem nm_wd {k : Str} (h : hasB k letZ 8 = true) : Wd k := by
  obtain ⟨h1, h2, h3⟩ := nm_of h
  exact ⟨h1, by omega, fun c hc => .inr (.inr (.inr (h3 c hc)))⟩
theorem Wd.free {w : Str} (h : Wd w) : 32 ∉ w.cps.toList := fun z => by
  have := h.sg _ z
  unfold Sgn at this
  omega
theorem Wd.not {w : Str} {c : Nat} (h : Wd w) (hc : c = 40 ∨ c = 41) : w ≠ ⟨#[c]⟩ := fun z => by
  have := h.sg c (by rw [z]; exact List.mem_cons_self)
  unfold Sgn at this
  omega
def fl (c : Nat) (ws : List Str) : List Nat := (ws.map fun w => c :: w.cps.toList).flatten
theorem fl_app (c : Nat) (us vs : List Str) : fl c (us ++ vs) = fl c us ++ fl c vs := by
  unfold fl
  rw [List.map_append, List.flatten_append]
theorem fl_cons (c : Nat) (u : Str) (vs : List Str) : fl c (u :: vs) = (c :: u.cps.toList) ++ fl c vs := rfl
theorem fl_flat {α : Type} (c : Nat) (g : α → List Str) : ∀ xs : List α, fl c (xs.flatMap g) = xs.flatMap fun x => fl c (g x)
  | [] => rfl
  | x :: xs => by rw [List.flatMap_cons, List.flatMap_cons, fl_app, fl_flat c g xs]
theorem join_fl {c : Nat} : ∀ {ws : List Str}, ws ≠ [] → c :: (Txt.join ⟨#[c]⟩ ws).cps.toList = fl c ws
  | [], h => absurd rfl h
  | [x], _ => by
    rw [fl_cons]
    show c :: x.cps.toList = (c :: x.cps.toList) ++ []
    rw [List.append_nil]
  | x :: y :: zs, _ => by
    have e : Txt.join ⟨#[c]⟩ (x :: y :: zs) = Str.join ⟨#[c]⟩ (x :: y :: zs) := StrLaws.glued_eq_join _ _
    have e2 : Txt.join ⟨#[c]⟩ (y :: zs) = Str.join ⟨#[c]⟩ (y :: zs) := StrLaws.glued_eq_join _ _
    have ih := join_fl (c := c) (ws := y :: zs) (by simp)
    rw [e, join_cps, fl_cons, ← ih, e2]
    rfl
abbrev jn (ws : List Str) : Str := Txt.join (Str.ofString " ") ws
abbrev jc (ws : List Str) : Str := Txt.join (Str.ofString ",") ws
theorem jn_fl {ws : List Str} (h : ws ≠ []) : 32 :: (jn ws).cps.toList = fl 32 ws := by
  have := join_fl (c := 32) h
  rw [← space_eq] at this
  exact this
theorem jc_fl {ws : List Str} (h : ws ≠ []) : 44 :: (jc ws).cps.toList = fl 44 ws := by
  have := join_fl (c := 44) h
  rw [← comma_eq] at this
  exact this
theorem jn_eq {us vs : List Str} (hu : us ≠ []) (hv : vs ≠ []) (h : fl 32 us = fl 32 vs) : jn us = jn vs := by
  rw [← jn_fl hu, ← jn_fl hv] at h
  exact str_ext (List.cons.inj h).2
theorem fl_jn {ws : List Str} (h : ws ≠ []) : fl 32 [jn ws] = fl 32 ws := by
  rw [fl_cons, ← jn_fl h]
  exact List.append_nil _
theorem fl_len (c m : Nat) : ∀ ws : List Str, (∀ w ∈ ws, w.length ≤ m) → (fl c ws).length ≤ (m + 1) * ws.length
  | [], _ => by rw [List.length_nil]; exact Nat.zero_le _
  | w :: ws, h => by
    have := fl_len c m ws fun x hx => h x (List.mem_cons_of_mem _ hx)
    have h1 := h w List.mem_cons_self
    rw [len_cps] at h1
    rw [fl_cons, List.length_append, List.length_cons, List.length_cons, Nat.mul_succ]
    omega
theorem jc_wd {ks : List Str} (h1 : 1 ≤ ks.length) (h8 : ks.length ≤ 8) (hk : ∀ k ∈ ks, hasB k letZ 8 = true) : Wd (jc ks) := by
  have hne : ks ≠ [] := fun z => by rw [z] at h1; cases h1
  have e := jc_fl hne
  have hl := fl_len 44 8 ks fun w hw => (nm_of (hk w hw)).2.1
  rw [← e, List.length_cons] at hl
  refine ⟨?_, by rw [len_cps]; omega, fun c hc => ?_⟩
  · cases ks with
    | nil => exact absurd rfl hne
    | cons k r =>
      have h0 := (nm_of (hk k List.mem_cons_self)).1
      have := congrArg List.length e
      rw [fl_cons, List.length_cons, List.length_append, List.length_cons, ← len_cps, ← len_cps] at this
      omega
  · have : c ∈ fl 44 ks := by rw [← e]; exact List.mem_cons_of_mem _ hc
    unfold fl at this
    obtain ⟨l, hl, hc⟩ := List.mem_flatten.mp this
    obtain ⟨k, hk', rfl⟩ := List.mem_map.mp hl
    rcases List.mem_cons.mp hc with z | hc
    · exact .inl z
    · exact .inr (.inr (.inr ((nm_of (hk k hk')).2.2 c hc)))
theorem sum_le (m : Nat) : ∀ ws : List Str, (∀ w ∈ ws, w.length ≤ m) → (ws.map (·.length)).sum ≤ m * ws.length
  | [], _ => Nat.zero_le _
  | w :: ws, h => by
    have := sum_le m ws fun x hx => h x (List.mem_cons_of_mem _ hx)
    have h1 := h w List.mem_cons_self
    rw [List.map_cons, List.sum_cons, List.length_cons, Nat.mul_succ]
    omega
theorem jn_fits {ws : List Str} (h : ∀ w ∈ ws, w.length ≤ 15000) (hl : ws.length ≤ 1000) : (ws.map (·.length)).sum + ws.length * (Str.ofString " ").length ≤ 16777216 := by
  have := sum_le 15000 ws h
  rw [show (Str.ofString " ").length = 1 from by decide +kernel, Nat.mul_one]
  omega
theorem jn_len {ws : List Str} {m : Nat} (h : ∀ w ∈ ws, w.length ≤ m) : (jn ws).length ≤ (m + 1) * ws.length := by
  cases ws with
  | nil => exact Nat.le_trans (Nat.le_of_eq (show (jn []).length = 0 from by decide +kernel)) (Nat.zero_le _)
  | cons w r =>
    have e := congrArg List.length (jn_fl (ws := w :: r) (by simp))
    have hl := fl_len 32 m (w :: r) h
    rw [List.length_cons] at e
    rw [len_cps]
    omega
def onF (acc ks : List Str) : List Str := ks.foldl (fun acc k => if k ∈ acc then acc else acc ++ [k]) acc
theorem onF_snoc (acc ks : List Str) (k : Str) : onF acc (ks ++ [k]) = if k ∈ onF acc ks then onF acc ks else onF acc ks ++ [k] := by
  unfold onF
  rw [List.foldl_append]
  rfl
theorem onF_mem {x : Str} : ∀ {ks acc : List Str}, x ∈ onF acc ks ↔ x ∈ acc ∨ x ∈ ks
  | [], acc => by
    show x ∈ acc ↔ _
    simp
  | k :: ks, acc => by
    show x ∈ onF (if k ∈ acc then acc else acc ++ [k]) ks ↔ _
    rw [onF_mem]
    by_cases h : k ∈ acc
    · rw [if_pos h, List.mem_cons]
      constructor
      · rintro (a | a)
        · exact .inl a
        · exact .inr (.inr a)
      · rintro (a | a | a)
        · exact .inl a
        · exact .inl (by rw [a]; exact h)
        · exact .inr a
    · rw [if_neg h, List.mem_append, List.mem_singleton, List.mem_cons, or_assoc]
theorem once_mem {x : Str} {ks : List Str} : x ∈ onceL ks ↔ x ∈ ks := by
  rw [show onceL ks = onF [] ks from rfl, onF_mem]
  simp
theorem onF_once (acc : List Str) : ∀ (n : Nat) (ks : List Str), ks.length = n → onF acc (onceL ks) = onF acc ks
  | 0, ks, h => by rw [List.length_eq_zero_iff.mp h]; rfl
  | n + 1, ks, h => by
    obtain ⟨xs, x, rfl⟩ : ∃ xs x, ks = xs ++ [x] := ⟨ks.dropLast, ks.getLast (by intro z; rw [z] at h; cases h), (List.dropLast_concat_getLast _).symm⟩
    rw [List.length_append, List.length_singleton] at h
    have ih := onF_once acc n xs (by omega)
    rw [once_snoc, onF_snoc]
    by_cases z : x ∈ onceL xs
    · rw [if_pos z, ih, if_pos (onF_mem.mpr (.inr (once_mem.mp z)))]
    · rw [if_neg z, onF_snoc, ih]
theorem onF_flat {α : Type} (g : α → List Str) : ∀ (xs : List α) (acc : List Str), onF acc (xs.flatMap fun x => onceL (g x)) = onF acc (xs.flatMap g)
  | [], _ => rfl
  | x :: xs, acc => by
    have ap : ∀ a b c : List Str, onF a (b ++ c) = onF (onF a b) c := fun a b c => by unfold onF; rw [List.foldl_append]
    rw [List.flatMap_cons, List.flatMap_cons, ap, ap, onF_once _ _ _ rfl, onF_flat g xs]
theorem once_flat {α : Type} (g : α → List Str) (xs : List α) : onceL (xs.flatMap fun x => onceL (g x)) = onceL (xs.flatMap g) := onF_flat g xs []
inductive Lf
  | num (z : Int) | val (k : Str) (d : Int) | gth (w : Str) (ks : List Str) (f l : Int) | snc (k : Str) (b f l : Int) | prt (a b : Str) (f l : Int) | chg (r : Int) (k : Str) (f l : Int)
inductive Nd
  | leaf (l : Lf) | brk (w : Str) (xs : List Nd)
def lfWords : Lf → List Str
  | .num z => [Str.ofString "number", si z]
  | .val k d => [Str.ofString "value", k, si d]
  | .gth w ks f l => [w, jc ks, si f, si l]
  | .snc k b f l => [Str.ofString "since", k, si b, si f, si l]
  | .prt a b f l => [Str.ofString "part", a, b, si f, si l]
  | .chg r k f l => [Str.ofString "change", si r, k, si f, si l]
def lfKeys : Lf → List Str
  | .num _ => []
  | .val k _ => [k]
  | .gth _ ks _ _ => ks
  | .snc k _ _ _ => [k]
  | .prt a b _ _ => [a, b]
  | .chg _ k _ _ => [k]
def Day2 (f l : Int) : Prop := 0 ≤ f ∧ f ≤ l ∧ l ≤ 399
def Big (z : Int) : Prop := -1000000000 ≤ z ∧ z ≤ 1000000000
def IsNm (k : Str) : Prop := hasB k letZ 8 = true
def LfOk : Lf → Prop
  | .num z => Big z
  | .val k d => IsNm k ∧ 0 ≤ d ∧ d ≤ 399
  | .gth w ks f l => w ∈ gthW ∧ (1 ≤ ks.length ∧ ks.length ≤ 8 ∧ ks.Nodup ∧ ∀ k ∈ ks, IsNm k) ∧ Day2 f l
  | .snc k b f l => IsNm k ∧ Big b ∧ Day2 f l
  | .prt a b f l => IsNm a ∧ IsNm b ∧ Day2 f l
  | .chg r k f l => (1 ≤ r ∧ r ≤ 400) ∧ IsNm k ∧ Day2 f l
abbrev opS : Str := Str.ofString "("
abbrev clS : Str := Str.ofString ")"
def wordsN : Nat → Nd → List Str
  | 0, .leaf l => lfWords l
  | 0, .brk _ _ => []
  | _ + 1, .leaf l => lfWords l
  | n + 1, .brk w xs => w :: xs.flatMap fun c => opS :: (wordsN n c ++ [clS])
def keysN : Nat → Nd → List Str
  | 0, .leaf l => lfKeys l
  | 0, .brk _ _ => []
  | _ + 1, .leaf l => lfKeys l
  | n + 1, .brk w xs => xs.flatMap (keysN n)
def topI (ns : List Int) : Int := ns.foldl (fun a b => if b > a then b else a) 0
def depthN : Nat → Nd → Int
  | 0, _ => 0
  | _ + 1, .leaf _ => 0
  | n + 1, .brk _ xs => 1 + topI (xs.map (depthN n))
def NdOk : Nat → Nd → Prop
  | 0, .leaf l => LfOk l
  | 0, .brk _ _ => False
  | _ + 1, .leaf l => LfOk l
  | n + 1, .brk w xs => ((w ∈ rckW ∧ xs.length = 2) ∨ (w ∈ chcW ∧ xs.length = 4)) ∧ ∀ x ∈ xs, NdOk n x
theorem wN_leaf (n : Nat) (l : Lf) : wordsN n (.leaf l) = lfWords l := by cases n <;> rfl
theorem kN_leaf (n : Nat) (l : Lf) : keysN n (.leaf l) = lfKeys l := by cases n <;> rfl
theorem dN_leaf (n : Nat) (l : Lf) : depthN n (.leaf l) = 0 := by cases n <;> rfl
theorem ok_leaf {n : Nat} {l : Lf} (h : NdOk n (.leaf l)) : LfOk l := by cases n <;> exact h
theorem gth_wd : ∀ w ∈ gthW, 1 ≤ w.length ∧ w.length ≤ 79 ∧ ∀ c ∈ w.cps.toList, 97 ≤ c ∧ c ≤ 122 := by decide +kernel
theorem rck_wd : ∀ w ∈ rckW, 1 ≤ w.length ∧ w.length ≤ 79 ∧ ∀ c ∈ w.cps.toList, 97 ≤ c ∧ c ≤ 122 := by decide +kernel
theorem chc_wd : ∀ w ∈ chcW, 1 ≤ w.length ∧ w.length ≤ 79 ∧ ∀ c ∈ w.cps.toList, 97 ≤ c ∧ c ≤ 122 := by decide +kernel
theorem sgl_wd : ∀ w ∈ sglW, 1 ≤ w.length ∧ w.length ≤ 79 ∧ ∀ c ∈ w.cps.toList, 97 ≤ c ∧ c ≤ 122 := by decide +kernel
theorem wd_of {w : Str} (h : 1 ≤ w.length ∧ w.length ≤ 79 ∧ ∀ c ∈ w.cps.toList, 97 ≤ c ∧ c ≤ 122) : Wd w := ⟨h.1, h.2.1, fun c hc => .inr (.inr (.inr (h.2.2 c hc)))⟩
theorem all_nil {P : Str → Prop} : ∀ w ∈ ([] : List Str), P w := fun _ h => nomatch h
theorem all_cons {P : Str → Prop} {x : Str} {xs : List Str} (h : P x) (t : ∀ w ∈ xs, P w) : ∀ w ∈ x :: xs, P w := fun w hw => (List.mem_cons.mp hw).elim (fun e => e ▸ h) (t w)
theorem big_day {f l : Int} (h : Day2 f l) : Wd (si f) ∧ Wd (si l) := by
  obtain ⟨h1, h2, h3⟩ := h
  exact ⟨si_wd (by omega) (by omega), si_wd (by omega) (by omega)⟩
theorem lf_wd : ∀ {l : Lf}, LfOk l → ∀ w ∈ lfWords l, Wd w
  | .num z, h => all_cons (wd_of (sgl_wd _ (by decide +kernel))) (all_cons (si_wd h.1 h.2) all_nil)
  | .val k d, ⟨h1, h2, h3⟩ => all_cons (wd_of (sgl_wd _ (by decide +kernel))) (all_cons (nm_wd h1) (all_cons (si_wd (by omega) (by omega)) all_nil))
  | .gth w ks f l, ⟨h1, ⟨h2, h3, _, h4⟩, h5⟩ => all_cons (wd_of (gth_wd _ h1)) (all_cons (jc_wd h2 h3 h4) (all_cons (big_day h5).1 (all_cons (big_day h5).2 all_nil)))
  | .snc k b f l, ⟨h1, h2, h5⟩ => all_cons (wd_of (sgl_wd _ (by decide +kernel))) (all_cons (nm_wd h1) (all_cons (si_wd h2.1 h2.2) (all_cons (big_day h5).1 (all_cons (big_day h5).2 all_nil))))
  | .prt a b f l, ⟨h1, h2, h5⟩ => all_cons (wd_of (sgl_wd _ (by decide +kernel))) (all_cons (nm_wd h1) (all_cons (nm_wd h2) (all_cons (big_day h5).1 (all_cons (big_day h5).2 all_nil))))
  | .chg r k f l, ⟨h1, h2, h5⟩ => all_cons (wd_of (sgl_wd _ (by decide +kernel))) (all_cons (si_wd (by omega) (by omega)) (all_cons (nm_wd h2) (all_cons (big_day h5).1 (all_cons (big_day h5).2 all_nil))))
theorem lf_len (l : Lf) : 2 ≤ (lfWords l).length ∧ (lfWords l).length ≤ 5 := by cases l <;> exact ⟨Nat.le_of_ble_eq_true rfl, Nat.le_of_ble_eq_true rfl⟩
def WdB (w : Str) : Prop := Wd w ∨ w = opS ∨ w = clS
theorem WdB.len {w : Str} (h : WdB w) : w.length ≤ 79 := by
  rcases h with h | rfl | rfl
  · exact h.hi
  · exact (by decide +kernel)
  · exact (by decide +kernel)
theorem WdB.free {w : Str} (h : WdB w) : 32 ∉ w.cps.toList := by
  rcases h with h | rfl | rfl
  · exact h.free
  · exact (by decide +kernel)
  · exact (by decide +kernel)
theorem brk_wd {w : Str} {m : Nat} (h : (w ∈ rckW ∧ m = 2) ∨ (w ∈ chcW ∧ m = 4)) : Wd w := by
  rcases h with ⟨h, _⟩ | ⟨h, _⟩
  · exact wd_of (rck_wd _ h)
  · exact wd_of (chc_wd _ h)
theorem words_wd : ∀ {n : Nat} {nd : Nd}, NdOk n nd → ∀ w ∈ wordsN n nd, WdB w
  | 0, .leaf l, h => fun w hw => .inl (lf_wd (show LfOk l from h) w hw)
  | 0, .brk _ _, h => (show False from h).elim
  | n + 1, .leaf l, h => fun w hw => .inl (lf_wd (show LfOk l from h) w hw)
  | n + 1, .brk w xs, h => fun v hv => by
    obtain ⟨h1, h2⟩ : _ ∧ _ := h
    rcases List.mem_cons.mp hv with z | hv
    · rw [z]; exact .inl (brk_wd h1)
    · obtain ⟨c, hc, hv⟩ := List.mem_flatMap.mp hv
      rcases List.mem_cons.mp hv with z | hv
      · exact .inr (.inl z)
      · rcases List.mem_append.mp hv with hv | hv
        · exact words_wd (h2 c hc) v hv
        · exact .inr (.inr (List.mem_singleton.mp hv))
theorem words_ne (n : Nat) : ∀ {nd : Nd}, NdOk n nd → wordsN n nd ≠ [] := by
  intro nd h z
  cases nd with
  | leaf l =>
    rw [wN_leaf] at z
    have := (lf_len l).1
    rw [z] at this
    exact absurd this (by decide)
  | brk w xs =>
    cases n with
    | zero => exact h
    | succ n => exact absurd z (by unfold wordsN; simp)
def Wn : Nat → Nat
  | 0 => 5
  | n + 1 => 4 * (Wn n + 2) + 1
theorem flat_len {α : Type} {g : α → List Str} {m : Nat} : ∀ xs : List α, (∀ x ∈ xs, (g x).length ≤ m) → (xs.flatMap g).length ≤ m * xs.length
  | [], _ => Nat.zero_le _
  | x :: xs, h => by
    have := flat_len xs fun y hy => h y (List.mem_cons_of_mem _ hy)
    have h1 := h x List.mem_cons_self
    rw [List.flatMap_cons, List.length_append, List.length_cons, Nat.mul_succ]
    omega
theorem Wn_ge : ∀ n, 5 ≤ Wn n
  | 0 => Nat.le_refl _
  | n + 1 => by have := Wn_ge n; show 5 ≤ 4 * (Wn n + 2) + 1; omega
theorem brk_len {w : Str} {m : Nat} (h : (w ∈ rckW ∧ m = 2) ∨ (w ∈ chcW ∧ m = 4)) : 2 ≤ m ∧ m ≤ 4 := by
  rcases h with ⟨_, h⟩ | ⟨_, h⟩ <;> omega
theorem words_len : ∀ {n : Nat} {nd : Nd}, NdOk n nd → (wordsN n nd).length ≤ Wn n
  | 0, .leaf l, _ => (lf_len l).2
  | 0, .brk _ _, h => (show False from h).elim
  | n + 1, .leaf l, _ => Nat.le_trans (lf_len l).2 (Wn_ge _)
  | n + 1, .brk w xs, h => by
    obtain ⟨h1, h2⟩ : _ ∧ _ := h
    have hl := brk_len h1
    have := flat_len (g := fun c => opS :: (wordsN n c ++ [clS])) (m := Wn n + 2) xs fun c hc => by
      have := words_len (h2 c hc)
      rw [List.length_cons, List.length_append, List.length_singleton]
      omega
    show (w :: xs.flatMap _).length ≤ 4 * (Wn n + 2) + 1
    rw [List.length_cons]
    have h4 : (Wn n + 2) * xs.length ≤ (Wn n + 2) * 4 := Nat.mul_le_mul_left _ hl.2
    omega
theorem Wn_le {n : Nat} (h : n ≤ 3) : Wn n ≤ 509 := by
  rcases (show n = 0 ∨ n = 1 ∨ n = 2 ∨ n = 3 by omega) with rfl | rfl | rfl | rfl <;> decide
def Kn : Nat → Nat
  | 0 => 8
  | n + 1 => 4 * Kn n
theorem Kn_ge : ∀ n, 8 ≤ Kn n
  | 0 => Nat.le_refl _
  | n + 1 => by have := Kn_ge n; show 8 ≤ 4 * Kn n; omega
theorem lf_klen : ∀ {l : Lf}, LfOk l → (lfKeys l).length ≤ 8
  | .num _, _ => Nat.le_of_ble_eq_true rfl
  | .val _ _, _ => Nat.le_of_ble_eq_true rfl
  | .gth _ _ _ _, h => h.2.1.2.1
  | .snc _ _ _ _, _ => Nat.le_of_ble_eq_true rfl
  | .prt _ _ _ _, _ => Nat.le_of_ble_eq_true rfl
  | .chg _ _ _ _, _ => Nat.le_of_ble_eq_true rfl
theorem keys_len : ∀ {n : Nat} {nd : Nd}, NdOk n nd → (keysN n nd).length ≤ Kn n
  | 0, .leaf l, h => lf_klen (show LfOk l from h)
  | 0, .brk _ _, h => (show False from h).elim
  | n + 1, .leaf l, h => Nat.le_trans (lf_klen (show LfOk l from h)) (Kn_ge _)
  | n + 1, .brk w xs, h => by
    obtain ⟨h1, h2⟩ : _ ∧ _ := h
    have hl := brk_len h1
    have := flat_len (g := keysN n) (m := Kn n) xs fun c hc => keys_len (h2 c hc)
    show (xs.flatMap _).length ≤ 4 * Kn n
    have h4 : Kn n * xs.length ≤ Kn n * 4 := Nat.mul_le_mul_left _ hl.2
    omega
theorem Kn_le {n : Nat} (h : n ≤ 3) : Kn n ≤ 512 := by
  rcases (show n = 0 ∨ n = 1 ∨ n = 2 ∨ n = 3 by omega) with rfl | rfl | rfl | rfl <;> decide
def At (ws : List Str) (pl : Nat) (vs : List Str) : Prop := vs <+: ws.drop pl
theorem At.hd {ws vs : List Str} {pl : Nat} {v : Str} (h : At ws pl (v :: vs)) : ws[pl]? = some v := by
  obtain ⟨t, e⟩ := h
  have : (ws.drop pl)[0]? = some v := by rw [← e]; rfl
  rw [List.getElem?_drop] at this
  exact this
theorem At.app {ws us vs : List Str} {pl : Nat} (h : At ws pl (us ++ vs)) : At ws pl us ∧ At ws (pl + us.length) vs := by
  obtain ⟨t, e⟩ := h
  refine ⟨⟨vs ++ t, by rw [← List.append_assoc]; exact e⟩, t, ?_⟩
  rw [← List.drop_drop, ← e, List.append_assoc, List.drop_left]
theorem At.tl {ws vs : List Str} {pl : Nat} {v : Str} (h : At ws pl (v :: vs)) : At ws (pl + 1) vs := (At.app (us := [v]) h).2
theorem At.all (ws : List Str) : At ws 0 ws := List.prefix_refl _
end Mine
namespace Mine
open PySem L2
abbrev sINum : Stmt := inClass (top 18) 0
abbrev sIVal : Stmt := inClass (top 19) 0
abbrev sIGth : Stmt := inClass (top 20) 0
abbrev sISnc : Stmt := inClass (top 21) 0
abbrev sIPrt : Stmt := inClass (top 22) 0
abbrev sIChg : Stmt := inClass (top 23) 0
abbrev sText : Stmt := inClass (top 17) 1
abbrev sAsked : Stmt := inClass (top 17) 2
abbrev sDepth : Stmt := inClass (top 17) 3
def qf3 (tx : Str) (ln : Addr) (d : Int) : List (Str × V) := [("written", V.str tx), ("names", V.ref ln), ("levels", V.int d)]
def lfMore : Lf → List (Str × V)
  | .num z => [("number", .int z)]
  | .val k d => [("key", .str k), ("day", .int d)]
  | .gth w _ f l => [("word", .str w), ("first", .int f), ("last", .int l)]
  | .snc k b f l => [("key", .str k), ("bound", .int b), ("first", .int f), ("last", .int l)]
  | .prt a b f l => [("one", .str a), ("other", .str b), ("first", .int f), ("last", .int l)]
  | .chg r k f l => [("rank", .int r), ("key", .str k), ("first", .int f), ("last", .int l)]
def lfFs (l : Lf) (ln : Addr) : List (Str × V) := qf3 (jn (lfWords l)) ln 0 ++ lfMore l
theorem q_w (tx : Str) (ln : Addr) (d : Int) (r : List (Str × V)) : (qf3 tx ln d ++ r).lookup ("written" : Str) = some (.str tx) := rfl
theorem q_n (tx : Str) (ln : Addr) (d : Int) (r : List (Str × V)) : (qf3 tx ln d ++ r).lookup ("names" : Str) = some (.ref ln) := by
  show (((("written" : Str), V.str tx) :: (("names" : Str), V.ref ln) :: _)).lookup _ = _
  rw [List.lookup_cons, show (("names" : Str) == ("written" : Str)) = false from by decide +kernel]
  rfl
theorem q_l (tx : Str) (ln : Addr) (d : Int) (r : List (Str × V)) : (qf3 tx ln d ++ r).lookup ("levels" : Str) = some (.int d) := by
  show (((("written" : Str), V.str tx) :: (("names" : Str), V.ref ln) :: _)).lookup _ = _
  rw [List.lookup_cons, show (("levels" : Str) == ("written" : Str)) = false from by decide +kernel, List.lookup_cons, show (("levels" : Str) == ("names" : Str)) = false from by decide +kernel]
  rfl
theorem q_no {m : Str} (hm : m ∉ qNames) : ∀ {fs : List (Str × V)}, (∀ p ∈ fs, p.1 ∈ qNames) → fs.lookup m = none
  | [], _ => rfl
  | (k, v) :: fs, h => by
    rw [List.lookup_cons, beq_eq_false_iff_ne.mpr (fun z : m = k => hm (by rw [z]; exact h (k, v) List.mem_cons_self))]
    exact q_no hm fun p hp => h p (List.mem_cons_of_mem _ hp)
theorem lf_names (l : Lf) (ln : Addr) : ∀ p ∈ lfFs l ln, p.1 ∈ qNames := by
  have key : ∀ {fs : List (Str × V)} {ks : List Str}, fs.map (·.1) = ks → (∀ k ∈ ks, k ∈ qNames) → ∀ p ∈ fs, p.1 ∈ qNames := fun e h p hp => h _ (by rw [← e]; exact List.mem_map_of_mem hp)
  cases l
  · exact key (ks := [Str.ofString "written", Str.ofString "names", Str.ofString "levels", Str.ofString "number"]) rfl (by decide +kernel)
  · exact key (ks := [Str.ofString "written", Str.ofString "names", Str.ofString "levels", Str.ofString "key", Str.ofString "day"]) rfl (by decide +kernel)
  · exact key (ks := [Str.ofString "written", Str.ofString "names", Str.ofString "levels", Str.ofString "word", Str.ofString "first", Str.ofString "last"]) rfl (by decide +kernel)
  · exact key (ks := [Str.ofString "written", Str.ofString "names", Str.ofString "levels", Str.ofString "key", Str.ofString "bound", Str.ofString "first", Str.ofString "last"]) rfl (by decide +kernel)
  · exact key (ks := [Str.ofString "written", Str.ofString "names", Str.ofString "levels", Str.ofString "one", Str.ofString "other", Str.ofString "first", Str.ofString "last"]) rfl (by decide +kernel)
  · exact key (ks := [Str.ofString "written", Str.ofString "names", Str.ofString "levels", Str.ofString "rank", Str.ofString "key", Str.ofString "first", Str.ofString "last"]) rfl (by decide +kernel)
theorem log_big {z : Int} (h0 : -1000000000 ≤ z) (h1 : z ≤ 1000000000) : z.natAbs.log2 < 1920 := by
  by_cases e : z.natAbs = 0
  · rw [e]; decide
  · exact Nat.lt_trans ((Nat.log2_lt e).mpr (show z.natAbs < 2 ^ 30 by omega)) (by decide)
inductive LfI (K : PySem.W.Frag) (C x dx : Addr) (l : Lf) (H : Hp) (Q : VK) : Prop
  | mk (T : QuC K C) (hx : H x = some (.ins C dx [])) (ok : LfOk l) (q : ∀ ln H', H ln = none → Ofr x H H' → H' ln = some (.lst ((onceL (lfKeys l)).map V.str)) → H' x = some (.ins C dx (lfFs l ln)) → Q .non H') : LfI K C x dx l H Q
theorem lfi_q {K : PySem.W.Frag} {C x dx p1 p2 : Addr} {l : Lf} {H H2 : Hp} {Q : VK} {E : XK} (T : QuC K C) (hx : H x = some (.ins C dx [])) (ok : LfOk l) (g : Grow H H2) (e1 : H2 p1 = some (.lst ((lfWords l).map V.str))) (e2 : SqL K H2 p2 ((lfKeys l).map V.str))
    (q : ∀ ln H', H ln = none → Ofr x H H' → H' ln = some (.lst ((onceL (lfKeys l)).map V.str)) → H' x = some (.ins C dx (qf3 (jn (lfWords l)) ln 0)) → Q .non H') : spInitQ K [.ref x, .ref p1, .ref p2, .int 0] H2 Q E := by
  refine ⟨x, C, dx, p1, p2, [], lfWords l, lfKeys l, 0, rfl, T, g _ _ hx, by decide, e1, e2, Nat.le_trans (lf_klen ok) (by decide), jn_fits (fun w hw => Nat.le_trans (lf_wd ok w hw).hi (by decide)) (Nat.le_trans (lf_len l).2 (by decide)), fun ln H' nl o el ex => ?_⟩
  refine q ln H' ?_ (fun b u e n => o _ _ (g _ _ e) n) el ex
  cases e : H ln with
  | none => rfl
  | some u => rw [g _ _ e] at nl; cases nl
structure QAt (H : Hp) (x C ln : Addr) (tx : Str) (ks : List Str) (d : Int) : Prop where
  ob : ∃ dx r, H x = some (.ins C dx (qf3 tx ln d ++ r)) ∧ ∀ p ∈ qf3 tx ln d ++ r, p.1 ∈ qNames
  nm : H ln = some (.lst (ks.map V.str))
def spText (K : PySem.W.Frag) : Sp := fun vs H Q _ => ∃ (x C ln : Addr) (tx : Str) (ks : List Str) (d : Int), vs = [.ref x] ∧ QuC K C ∧ QAt H x C ln tx ks d ∧ Q (.str tx) H
def spDepthQ (K : PySem.W.Frag) : Sp := fun vs H Q _ => ∃ (x C ln : Addr) (tx : Str) (ks : List Str) (d : Int), vs = [.ref x] ∧ QuC K C ∧ QAt H x C ln tx ks d ∧ Q (.int d) H
def spAsked (K : PySem.W.Frag) : Sp := fun vs H Q _ => ∃ (x C ln : Addr) (tx : Str) (ks : List Str) (d : Int), vs = [.ref x] ∧ QuC K C ∧ QAt H x C ln tx ks d ∧ ∀ p, H p = none → Q (.ref p) (upd H p (.lst (ks.map V.str)))
section
variable {P : Program} {w : World} {K : PySem.W.Frag} {mg : Str → Option Value} {base : Heap}
theorem scText : FnScope ["self"] ["self"] (defScope sText) := ⟨rfl, rfl, rfl, by decide +kernel, rfl, by decide +kernel, by decide +kernel⟩
theorem ok_text {f : Addr} {fd : FuncData} (F : Fun K "text" "Question.text" sText f fd)  : FnOk P w K mg base CX0 1 f fd ["self"] (spText K) := by
  refine F.ok (k := 0) scText (fun vs H Q E h => ?_) (fun cdv A outer s H vs Q E hr h => ?_)
  · obtain ⟨x, C, ln, tx, ks, d, rfl, _⟩ := h
    rfl
  · obtain ⟨x, C, ln, tx, ks, d, rfl, T, ⟨⟨dx, r, hx, _⟩, hn⟩, q⟩ := h
    have hu := hu_of hr
    refine ⟨_, (pss_one (ps_ret (pe_fld (pv 0) rfl))), ?_⟩
    exact ⟨_, rfl, x, C, dx, _, _, rfl, hx, T.cl, T.a_written, q_w _ _ _ _, q⟩
end
section
variable {P : Program} {w : World} {K : PySem.W.Frag} {mg : Str → Option Value} {base : Heap}
theorem scDepthQ : FnScope ["self"] ["self"] (defScope sDepth) := ⟨rfl, rfl, rfl, by decide +kernel, rfl, by decide +kernel, by decide +kernel⟩
theorem ok_depthQ {f : Addr} {fd : FuncData} (F : Fun K "depth" "Question.depth" sDepth f fd)  : FnOk P w K mg base CX0 1 f fd ["self"] (spDepthQ K) := by
  refine F.ok (k := 0) scDepthQ (fun vs H Q E h => ?_) (fun cdv A outer s H vs Q E hr h => ?_)
  · obtain ⟨x, C, ln, tx, ks, d, rfl, _⟩ := h
    rfl
  · obtain ⟨x, C, ln, tx, ks, d, rfl, T, ⟨⟨dx, r, hx, _⟩, hn⟩, q⟩ := h
    have hu := hu_of hr
    refine ⟨_, (pss_one (ps_ret (pe_fld (pv 0) rfl))), ?_⟩
    exact ⟨_, rfl, x, C, dx, _, _, rfl, hx, T.cl, T.a_levels, q_l _ _ _ _, q⟩
end
section
variable {P : Program} {w : World} {K : PySem.W.Frag} {mg : Str → Option Value} {base : Heap}
theorem scAsked : FnScope ["self"] ["self"] (defScope sAsked) := ⟨rfl, rfl, rfl, by decide +kernel, rfl, by decide +kernel, by decide +kernel⟩
theorem ok_asked {f : Addr} {fd : FuncData} (F : Fun K "asked_keys" "Question.asked_keys" sAsked f fd) (N : Free mg) : FnOk P w K mg base CX0 1 f fd ["self"] (spAsked K) := by
  refine F.ok (k := 0) scAsked (fun vs H Q E h => ?_) (fun cdv A outer s H vs Q E hr h => ?_)
  · obtain ⟨x, C, ln, tx, ks, d, rfl, _⟩ := h
    rfl
  · obtain ⟨x, C, ln, tx, ks, d, rfl, T, ⟨⟨dx, r, hx, _⟩, hn⟩, q⟩ := h
    have hu := hu_of hr
    refine ⟨_, (pss_one (ps_ret (pe_callTy call_list_of (by rfl) N.list PyProof.Rows.Boot.«list» (pa_kons (pe_fld (pv 0) rfl) pa_nil)))), ?_⟩
    exact ⟨_, rfl, x, C, dx, _, _, rfl, hx, T.cl, T.a_names, q_n _ _ _ _, ln, _, rfl, .inl (SqL.of hn), fun p np => q p np⟩
end
def spINum (K : PySem.W.Frag) : Sp := fun vs H Q _ => ∃ (x C dx : Addr) (z : Int), vs = [.ref x, .int z] ∧ LfI K C x dx (.num z) H Q
section
variable {P : Program} {w : World} {K : PySem.W.Frag} {mg : Str → Option Value} {base : Heap}
theorem scINum : FnScope ["self", "number"] ["self", "number"] (defScope sINum) := ⟨rfl, rfl, rfl, by decide +kernel, rfl, by decide +kernel, by decide +kernel⟩
theorem ok_iNum {f f1 : Addr} {fd : FuncData} (F : Fun K "__init__" "Number.__init__" sINum f fd) (N : Free mg) {fd1 : FuncData} {CQ : Addr} {mc : Value} (CI : CMc P w K mg base "Question" "__init__" 2 ["self", "words", "keys", "depth"] (spInitQ K) CQ f1 fd1 mc) : FnOk P w K mg base CX0 3 f fd ["self", "number"] (spINum K) := by
  refine F.ok (k := 2) scINum (fun vs H Q E h => ?_) (fun cdv A outer s H vs Q E hr h => ?_)
  · obtain ⟨x, C, dx, z, rfl, _⟩ := h
    rfl
  · obtain ⟨x, C, dx, z, rfl, ⟨T, hx, ok, q⟩⟩ := h
    have hu := hu_of hr
    refine ⟨_, (pss_cons (ps_expr (pe_clsM rfl CI.nm CI.h1 CI.h2 CI.h3 rfl CI.ok (hr.mono (by decide)) CI.kp CI.bd .nil pass0 (pa_kons (pv 0) (pa_kons (pe_lst (pa_kons pe_str (pa_kons (pe_callTy call_str_int (by rfl) N.str PyProof.Rows.Boot.«str» (pa_kons (pv 1) pa_nil)) pa_nil))) (pa_kons (pe_lst pa_nil) (pa_kons pe_int pa_nil))))))
      (pss_one (ps_fld (pv 0) (pv 1) rfl))), ?_⟩
    have hz := id ok
    refine rd_seq (rd_expr ⟨_, rfl, _, rfl, _, rfl, log_big hz.1 hz.2, by show 2 ≤ sizeLine; decide, fun p1 np1 => ?_⟩)
    obtain ⟨g1, e1⟩ := laid (o := .lst ((lfWords (.num z)).map V.str)) np1
    change tCons _ _ _ (upd H p1 (.lst ((lfWords (.num z)).map V.str))) _
    generalize upd H p1 _ = H1 at g1 e1 ⊢
    refine ⟨by show 0 ≤ sizeLine; decide, fun p2 np2 => ?_⟩
    obtain ⟨g2, e2⟩ := laid (o := .lst ((lfKeys (.num z)).map V.str)) np2
    dsimp only [tCons, tC, tNil, List.append_nil, List.cons_append, List.nil_append]
    show spInitQ K [.ref x, .ref p1, .ref p2, .int 0] (upd H1 p2 (.lst ((lfKeys (.num z)).map V.str))) _ _
    refine lfi_q (l := .num z) T hx ok (g1.trans g2) (g2 _ _ e1) (SqL.of e2) fun ln H3 nl o3 el ex => ?_
    have nlx : ln ≠ x := fun z => by rw [z, hx] at nl; cases nl
    refine ⟨_, rfl, _, rfl, x, C, dx, _, rfl, ex, T.cl, T.a_number, (by show 3 < 1000; decide), ?_⟩
    exact q ln _ nl (fun b o e n => by rw [upd_ne n]; exact o3 _ _ e n) (by rw [upd_ne nlx]; exact el) upd_same
end
def spIVal (K : PySem.W.Frag) : Sp := fun vs H Q _ => ∃ (x C dx : Addr) (k : Str) (d : Int), vs = [.ref x, .str k, .int d] ∧ LfI K C x dx (.val k d) H Q
section
variable {P : Program} {w : World} {K : PySem.W.Frag} {mg : Str → Option Value} {base : Heap}
theorem scIVal : FnScope ["self", "key", "day"] ["self", "key", "day"] (defScope sIVal) := ⟨rfl, rfl, rfl, by decide +kernel, rfl, by decide +kernel, by decide +kernel⟩
theorem ok_iVal {f f1 : Addr} {fd : FuncData} (F : Fun K "__init__" "Value.__init__" sIVal f fd) (N : Free mg) {fd1 : FuncData} {CQ : Addr} {mc : Value} (CI : CMc P w K mg base "Question" "__init__" 2 ["self", "words", "keys", "depth"] (spInitQ K) CQ f1 fd1 mc) : FnOk P w K mg base CX0 3 f fd ["self", "key", "day"] (spIVal K) := by
  refine F.ok (k := 2) scIVal (fun vs H Q E h => ?_) (fun cdv A outer s H vs Q E hr h => ?_)
  · obtain ⟨x, C, dx, k, d, rfl, _⟩ := h
    rfl
  · obtain ⟨x, C, dx, k, d, rfl, ⟨T, hx, ok, q⟩⟩ := h
    have hu := hu_of hr
    refine ⟨_, (pss_cons (ps_expr (pe_clsM rfl CI.nm CI.h1 CI.h2 CI.h3 rfl CI.ok (hr.mono (by decide)) CI.kp CI.bd .nil pass0 (pa_kons (pv 0) (pa_kons (pe_lst (pa_kons pe_str (pa_kons (pv 1) (pa_kons (pe_callTy call_str_int (by rfl) N.str PyProof.Rows.Boot.«str» (pa_kons (pv 2) pa_nil)) pa_nil)))) (pa_kons (pe_lst (pa_kons (pv 1) pa_nil)) (pa_kons pe_int pa_nil))))))
      (pss_cons (ps_fld (pv 0) (pv 1) rfl)
      (pss_one (ps_fld (pv 0) (pv 2) rfl)))), ?_⟩
    obtain ⟨_, d0, d1⟩ := id ok
    refine rd_seq (rd_expr ⟨_, rfl, _, rfl, _, rfl, _, rfl, log_big (by omega) (by omega), by show 3 ≤ sizeLine; decide, fun p1 np1 => ?_⟩)
    obtain ⟨g1, e1⟩ := laid (o := .lst ((lfWords (.val k d)).map V.str)) np1
    change tCons _ _ _ (upd H p1 (.lst ((lfWords (.val k d)).map V.str))) _
    generalize upd H p1 _ = H1 at g1 e1 ⊢
    refine ⟨_, rfl, by show 1 ≤ sizeLine; decide, fun p2 np2 => ?_⟩
    obtain ⟨g2, e2⟩ := laid (o := .lst ((lfKeys (.val k d)).map V.str)) np2
    dsimp only [tCons, tC, tNil, List.append_nil, List.cons_append, List.nil_append]
    show spInitQ K [.ref x, .ref p1, .ref p2, .int 0] (upd H1 p2 (.lst ((lfKeys (.val k d)).map V.str))) _ _
    refine lfi_q (l := .val k d) T hx ok (g1.trans g2) (g2 _ _ e1) (SqL.of e2) fun ln H3 nl o3 el ex => ?_
    have nlx : ln ≠ x := fun z => by rw [z, hx] at nl; cases nl
    refine rd_seq ⟨_, rfl, _, rfl, x, C, dx, _, rfl, ex, T.cl, T.a_key, (by show 3 < 1000; decide), ?_⟩
    refine ⟨_, rfl, _, rfl, x, C, dx, _, rfl, upd_same, T.cl, T.a_day, (by show 4 < 1000; decide), ?_⟩
    rw [upd_upd]
    exact q ln _ nl (fun b o e n => by rw [upd_ne n]; exact o3 _ _ e n) (by rw [upd_ne nlx]; exact el) upd_same
end
def spIGth (K : PySem.W.Frag) : Sp := fun vs H Q _ => ∃ (x C dx : Addr) (gw : Str) (lk : Addr) (f0 : Int) (l0 : Int) (ks : List Str), vs = [.ref x, .str gw, .ref lk, .int f0, .int l0] ∧ H lk = some (.lst (ks.map V.str)) ∧ LfI K C x dx (.gth gw ks f0 l0) H Q
section
variable {P : Program} {w : World} {K : PySem.W.Frag} {mg : Str → Option Value} {base : Heap}
theorem scIGth : FnScope ["self", "word", "keys", "first", "last"] ["self", "word", "keys", "first", "last"] (defScope sIGth) := ⟨rfl, rfl, rfl, by decide +kernel, rfl, by decide +kernel, by decide +kernel⟩
theorem ok_iGth {f f1 : Addr} {fd : FuncData} (F : Fun K "__init__" "Gathering.__init__" sIGth f fd) (N : Free mg) {fd1 : FuncData} {CQ : Addr} {mc : Value} (CI : CMc P w K mg base "Question" "__init__" 2 ["self", "words", "keys", "depth"] (spInitQ K) CQ f1 fd1 mc) : FnOk P w K mg base CX0 3 f fd ["self", "word", "keys", "first", "last"] (spIGth K) := by
  refine F.ok (k := 2) scIGth (fun vs H Q E h => ?_) (fun cdv A outer s H vs Q E hr h => ?_)
  · obtain ⟨x, C, dx, gw, lk, f0, l0, ks, rfl, _⟩ := h
    rfl
  · obtain ⟨x, C, dx, gw, lk, f0, l0, ks, rfl, hlk, ⟨T, hx, ok, q⟩⟩ := h
    have hu := hu_of hr
    refine ⟨_, (pss_cons (ps_expr (pe_clsM rfl CI.nm CI.h1 CI.h2 CI.h3 rfl CI.ok (hr.mono (by decide)) CI.kp CI.bd .nil pass0 (pa_kons (pv 0) (pa_kons (pe_lst (pa_kons (pv 1) (pa_kons (pe_bm PySem.F.plainAttrs_str PySem.F.slot_str_join PySem.F.type_str_join mt_join pe_str (pa_kons (pv 2) pa_nil)) (pa_kons (pe_callTy call_str_int (by rfl) N.str PyProof.Rows.Boot.«str» (pa_kons (pv 3) pa_nil)) (pa_kons (pe_callTy call_str_int (by rfl) N.str PyProof.Rows.Boot.«str» (pa_kons (pv 4) pa_nil)) pa_nil))))) (pa_kons (pv 2) (pa_kons pe_int pa_nil))))))
      (pss_cons (ps_fld (pv 0) (pv 1) rfl)
      (pss_cons (ps_fld (pv 0) (pv 3) rfl)
      (pss_one (ps_fld (pv 0) (pv 4) rfl))))), ?_⟩
    obtain ⟨hg, ⟨k1, k8, _, hk⟩, h1, h2, h3⟩ := id ok
    refine rd_seq (rd_expr ⟨_, rfl, _, rfl, rfl, _, rfl, _, lk, ks, rfl, rfl, hlk, ?fit, _, rfl, _, rfl, log_big (by omega) (by omega), _, rfl, _, rfl, log_big (by omega) (by omega), by show 4 ≤ sizeLine; decide, fun p1 np1 => ?_⟩)
    case fit =>
      have := sum_le 8 ks fun w hw => (nm_of (hk w hw)).2.1
      rw [show (Str.ofString ",").length = 1 from by decide +kernel]
      omega
    obtain ⟨g1, e1⟩ := laid (o := .lst ((lfWords (.gth gw ks f0 l0)).map V.str)) np1
    change tCons _ _ _ (upd H p1 (.lst ((lfWords (.gth gw ks f0 l0)).map V.str))) _
    generalize upd H p1 _ = H1 at g1 e1 ⊢
    refine ⟨_, rfl, ?_⟩
    dsimp only [tCons, tC, tNil, List.append_nil, List.cons_append, List.nil_append]
    show spInitQ K [.ref x, .ref p1, .ref lk, .int 0] H1 _ _
    refine lfi_q (l := .gth gw ks f0 l0) T hx ok g1 e1 (SqL.of (g1 _ _ hlk)) fun ln H3 nl o3 el ex => ?_
    have nlx : ln ≠ x := fun z => by rw [z, hx] at nl; cases nl
    refine rd_seq ⟨_, rfl, _, rfl, x, C, dx, _, rfl, ex, T.cl, T.a_word, (by show 3 < 1000; decide), ?_⟩
    refine rd_seq ⟨_, rfl, _, rfl, x, C, dx, _, rfl, upd_same, T.cl, T.a_first, (by show 4 < 1000; decide), ?_⟩
    refine ⟨_, rfl, _, rfl, x, C, dx, _, rfl, upd_same, T.cl, T.a_last, (by show 5 < 1000; decide), ?_⟩
    rw [upd_upd, upd_upd]
    exact q ln _ nl (fun b o e n => by rw [upd_ne n]; exact o3 _ _ e n) (by rw [upd_ne nlx]; exact el) upd_same
end
def spISnc (K : PySem.W.Frag) : Sp := fun vs H Q _ => ∃ (x C dx : Addr) (k : Str) (b0 : Int) (f0 : Int) (l0 : Int), vs = [.ref x, .str k, .int b0, .int f0, .int l0] ∧ LfI K C x dx (.snc k b0 f0 l0) H Q
section
variable {P : Program} {w : World} {K : PySem.W.Frag} {mg : Str → Option Value} {base : Heap}
theorem scISnc : FnScope ["self", "key", "bound", "first", "last"] ["self", "key", "bound", "first", "last"] (defScope sISnc) := ⟨rfl, rfl, rfl, by decide +kernel, rfl, by decide +kernel, by decide +kernel⟩
theorem ok_iSnc {f f1 : Addr} {fd : FuncData} (F : Fun K "__init__" "Since.__init__" sISnc f fd) (N : Free mg) {fd1 : FuncData} {CQ : Addr} {mc : Value} (CI : CMc P w K mg base "Question" "__init__" 2 ["self", "words", "keys", "depth"] (spInitQ K) CQ f1 fd1 mc) : FnOk P w K mg base CX0 3 f fd ["self", "key", "bound", "first", "last"] (spISnc K) := by
  refine F.ok (k := 2) scISnc (fun vs H Q E h => ?_) (fun cdv A outer s H vs Q E hr h => ?_)
  · obtain ⟨x, C, dx, k, b0, f0, l0, rfl, _⟩ := h
    rfl
  · obtain ⟨x, C, dx, k, b0, f0, l0, rfl, ⟨T, hx, ok, q⟩⟩ := h
    have hu := hu_of hr
    refine ⟨_, (pss_cons (ps_expr (pe_clsM rfl CI.nm CI.h1 CI.h2 CI.h3 rfl CI.ok (hr.mono (by decide)) CI.kp CI.bd .nil pass0 (pa_kons (pv 0) (pa_kons (pe_lst (pa_kons pe_str (pa_kons (pv 1) (pa_kons (pe_callTy call_str_int (by rfl) N.str PyProof.Rows.Boot.«str» (pa_kons (pv 2) pa_nil)) (pa_kons (pe_callTy call_str_int (by rfl) N.str PyProof.Rows.Boot.«str» (pa_kons (pv 3) pa_nil)) (pa_kons (pe_callTy call_str_int (by rfl) N.str PyProof.Rows.Boot.«str» (pa_kons (pv 4) pa_nil)) pa_nil)))))) (pa_kons (pe_lst (pa_kons (pv 1) pa_nil)) (pa_kons pe_int pa_nil))))))
      (pss_cons (ps_fld (pv 0) (pv 1) rfl)
      (pss_cons (ps_fld (pv 0) (pv 2) rfl)
      (pss_cons (ps_fld (pv 0) (pv 3) rfl)
      (pss_one (ps_fld (pv 0) (pv 4) rfl)))))), ?_⟩
    obtain ⟨_, hb, h1, h2, h3⟩ := id ok
    refine rd_seq (rd_expr ⟨_, rfl, _, rfl, _, rfl, _, rfl, log_big hb.1 hb.2, _, rfl, _, rfl, log_big (by omega) (by omega), _, rfl, _, rfl, log_big (by omega) (by omega), by show 5 ≤ sizeLine; decide, fun p1 np1 => ?_⟩)
    obtain ⟨g1, e1⟩ := laid (o := .lst ((lfWords (.snc k b0 f0 l0)).map V.str)) np1
    change tCons _ _ _ (upd H p1 (.lst ((lfWords (.snc k b0 f0 l0)).map V.str))) _
    generalize upd H p1 _ = H1 at g1 e1 ⊢
    refine ⟨_, rfl, by show 1 ≤ sizeLine; decide, fun p2 np2 => ?_⟩
    obtain ⟨g2, e2⟩ := laid (o := .lst ((lfKeys (.snc k b0 f0 l0)).map V.str)) np2
    dsimp only [tCons, tC, tNil, List.append_nil, List.cons_append, List.nil_append]
    show spInitQ K [.ref x, .ref p1, .ref p2, .int 0] (upd H1 p2 (.lst ((lfKeys (.snc k b0 f0 l0)).map V.str))) _ _
    refine lfi_q (l := .snc k b0 f0 l0) T hx ok (g1.trans g2) (g2 _ _ e1) (SqL.of e2) fun ln H3 nl o3 el ex => ?_
    have nlx : ln ≠ x := fun z => by rw [z, hx] at nl; cases nl
    refine rd_seq ⟨_, rfl, _, rfl, x, C, dx, _, rfl, ex, T.cl, T.a_key, (by show 3 < 1000; decide), ?_⟩
    refine rd_seq ⟨_, rfl, _, rfl, x, C, dx, _, rfl, upd_same, T.cl, T.a_bound, (by show 4 < 1000; decide), ?_⟩
    refine rd_seq ⟨_, rfl, _, rfl, x, C, dx, _, rfl, upd_same, T.cl, T.a_first, (by show 5 < 1000; decide), ?_⟩
    refine ⟨_, rfl, _, rfl, x, C, dx, _, rfl, upd_same, T.cl, T.a_last, (by show 6 < 1000; decide), ?_⟩
    rw [upd_upd, upd_upd, upd_upd]
    exact q ln _ nl (fun b o e n => by rw [upd_ne n]; exact o3 _ _ e n) (by rw [upd_ne nlx]; exact el) upd_same
end
def spIPrt (K : PySem.W.Frag) : Sp := fun vs H Q _ => ∃ (x C dx : Addr) (k : Str) (k2 : Str) (f0 : Int) (l0 : Int), vs = [.ref x, .str k, .str k2, .int f0, .int l0] ∧ LfI K C x dx (.prt k k2 f0 l0) H Q
section
variable {P : Program} {w : World} {K : PySem.W.Frag} {mg : Str → Option Value} {base : Heap}
theorem scIPrt : FnScope ["self", "one", "other", "first", "last"] ["self", "one", "other", "first", "last"] (defScope sIPrt) := ⟨rfl, rfl, rfl, by decide +kernel, rfl, by decide +kernel, by decide +kernel⟩
theorem ok_iPrt {f f1 : Addr} {fd : FuncData} (F : Fun K "__init__" "Part.__init__" sIPrt f fd) (N : Free mg) {fd1 : FuncData} {CQ : Addr} {mc : Value} (CI : CMc P w K mg base "Question" "__init__" 2 ["self", "words", "keys", "depth"] (spInitQ K) CQ f1 fd1 mc) : FnOk P w K mg base CX0 3 f fd ["self", "one", "other", "first", "last"] (spIPrt K) := by
  refine F.ok (k := 2) scIPrt (fun vs H Q E h => ?_) (fun cdv A outer s H vs Q E hr h => ?_)
  · obtain ⟨x, C, dx, k, k2, f0, l0, rfl, _⟩ := h
    rfl
  · obtain ⟨x, C, dx, k, k2, f0, l0, rfl, ⟨T, hx, ok, q⟩⟩ := h
    have hu := hu_of hr
    refine ⟨_, (pss_cons (ps_expr (pe_clsM rfl CI.nm CI.h1 CI.h2 CI.h3 rfl CI.ok (hr.mono (by decide)) CI.kp CI.bd .nil pass0 (pa_kons (pv 0) (pa_kons (pe_lst (pa_kons pe_str (pa_kons (pv 1) (pa_kons (pv 2) (pa_kons (pe_callTy call_str_int (by rfl) N.str PyProof.Rows.Boot.«str» (pa_kons (pv 3) pa_nil)) (pa_kons (pe_callTy call_str_int (by rfl) N.str PyProof.Rows.Boot.«str» (pa_kons (pv 4) pa_nil)) pa_nil)))))) (pa_kons (pe_lst (pa_kons (pv 1) (pa_kons (pv 2) pa_nil))) (pa_kons pe_int pa_nil))))))
      (pss_cons (ps_fld (pv 0) (pv 1) rfl)
      (pss_cons (ps_fld (pv 0) (pv 2) rfl)
      (pss_cons (ps_fld (pv 0) (pv 3) rfl)
      (pss_one (ps_fld (pv 0) (pv 4) rfl)))))), ?_⟩
    obtain ⟨_, _, h1, h2, h3⟩ := id ok
    refine rd_seq (rd_expr ⟨_, rfl, _, rfl, _, rfl, _, rfl, _, rfl, log_big (by omega) (by omega), _, rfl, _, rfl, log_big (by omega) (by omega), by show 5 ≤ sizeLine; decide, fun p1 np1 => ?_⟩)
    obtain ⟨g1, e1⟩ := laid (o := .lst ((lfWords (.prt k k2 f0 l0)).map V.str)) np1
    change tCons _ _ _ (upd H p1 (.lst ((lfWords (.prt k k2 f0 l0)).map V.str))) _
    generalize upd H p1 _ = H1 at g1 e1 ⊢
    refine ⟨_, rfl, _, rfl, by show 2 ≤ sizeLine; decide, fun p2 np2 => ?_⟩
    obtain ⟨g2, e2⟩ := laid (o := .lst ((lfKeys (.prt k k2 f0 l0)).map V.str)) np2
    dsimp only [tCons, tC, tNil, List.append_nil, List.cons_append, List.nil_append]
    show spInitQ K [.ref x, .ref p1, .ref p2, .int 0] (upd H1 p2 (.lst ((lfKeys (.prt k k2 f0 l0)).map V.str))) _ _
    refine lfi_q (l := .prt k k2 f0 l0) T hx ok (g1.trans g2) (g2 _ _ e1) (SqL.of e2) fun ln H3 nl o3 el ex => ?_
    have nlx : ln ≠ x := fun z => by rw [z, hx] at nl; cases nl
    refine rd_seq ⟨_, rfl, _, rfl, x, C, dx, _, rfl, ex, T.cl, T.a_one, (by show 3 < 1000; decide), ?_⟩
    refine rd_seq ⟨_, rfl, _, rfl, x, C, dx, _, rfl, upd_same, T.cl, T.a_other, (by show 4 < 1000; decide), ?_⟩
    refine rd_seq ⟨_, rfl, _, rfl, x, C, dx, _, rfl, upd_same, T.cl, T.a_first, (by show 5 < 1000; decide), ?_⟩
    refine ⟨_, rfl, _, rfl, x, C, dx, _, rfl, upd_same, T.cl, T.a_last, (by show 6 < 1000; decide), ?_⟩
    rw [upd_upd, upd_upd, upd_upd]
    exact q ln _ nl (fun b o e n => by rw [upd_ne n]; exact o3 _ _ e n) (by rw [upd_ne nlx]; exact el) upd_same
end
def spIChg (K : PySem.W.Frag) : Sp := fun vs H Q _ => ∃ (x C dx : Addr) (r0 : Int) (k : Str) (f0 : Int) (l0 : Int), vs = [.ref x, .int r0, .str k, .int f0, .int l0] ∧ LfI K C x dx (.chg r0 k f0 l0) H Q
section
variable {P : Program} {w : World} {K : PySem.W.Frag} {mg : Str → Option Value} {base : Heap}
theorem scIChg : FnScope ["self", "rank", "key", "first", "last"] ["self", "rank", "key", "first", "last"] (defScope sIChg) := ⟨rfl, rfl, rfl, by decide +kernel, rfl, by decide +kernel, by decide +kernel⟩
theorem ok_iChg {f f1 : Addr} {fd : FuncData} (F : Fun K "__init__" "Change.__init__" sIChg f fd) (N : Free mg) {fd1 : FuncData} {CQ : Addr} {mc : Value} (CI : CMc P w K mg base "Question" "__init__" 2 ["self", "words", "keys", "depth"] (spInitQ K) CQ f1 fd1 mc) : FnOk P w K mg base CX0 3 f fd ["self", "rank", "key", "first", "last"] (spIChg K) := by
  refine F.ok (k := 2) scIChg (fun vs H Q E h => ?_) (fun cdv A outer s H vs Q E hr h => ?_)
  · obtain ⟨x, C, dx, r0, k, f0, l0, rfl, _⟩ := h
    rfl
  · obtain ⟨x, C, dx, r0, k, f0, l0, rfl, ⟨T, hx, ok, q⟩⟩ := h
    have hu := hu_of hr
    refine ⟨_, (pss_cons (ps_expr (pe_clsM rfl CI.nm CI.h1 CI.h2 CI.h3 rfl CI.ok (hr.mono (by decide)) CI.kp CI.bd .nil pass0 (pa_kons (pv 0) (pa_kons (pe_lst (pa_kons pe_str (pa_kons (pe_callTy call_str_int (by rfl) N.str PyProof.Rows.Boot.«str» (pa_kons (pv 1) pa_nil)) (pa_kons (pv 2) (pa_kons (pe_callTy call_str_int (by rfl) N.str PyProof.Rows.Boot.«str» (pa_kons (pv 3) pa_nil)) (pa_kons (pe_callTy call_str_int (by rfl) N.str PyProof.Rows.Boot.«str» (pa_kons (pv 4) pa_nil)) pa_nil)))))) (pa_kons (pe_lst (pa_kons (pv 2) pa_nil)) (pa_kons pe_int pa_nil))))))
      (pss_cons (ps_fld (pv 0) (pv 1) rfl)
      (pss_cons (ps_fld (pv 0) (pv 2) rfl)
      (pss_cons (ps_fld (pv 0) (pv 3) rfl)
      (pss_one (ps_fld (pv 0) (pv 4) rfl)))))), ?_⟩
    obtain ⟨⟨r1, r2⟩, _, h1, h2, h3⟩ := id ok
    refine rd_seq (rd_expr ⟨_, rfl, _, rfl, _, rfl, log_big (by omega) (by omega), _, rfl, _, rfl, _, rfl, log_big (by omega) (by omega), _, rfl, _, rfl, log_big (by omega) (by omega), by show 5 ≤ sizeLine; decide, fun p1 np1 => ?_⟩)
    obtain ⟨g1, e1⟩ := laid (o := .lst ((lfWords (.chg r0 k f0 l0)).map V.str)) np1
    change tCons _ _ _ (upd H p1 (.lst ((lfWords (.chg r0 k f0 l0)).map V.str))) _
    generalize upd H p1 _ = H1 at g1 e1 ⊢
    refine ⟨_, rfl, by show 1 ≤ sizeLine; decide, fun p2 np2 => ?_⟩
    obtain ⟨g2, e2⟩ := laid (o := .lst ((lfKeys (.chg r0 k f0 l0)).map V.str)) np2
    dsimp only [tCons, tC, tNil, List.append_nil, List.cons_append, List.nil_append]
    show spInitQ K [.ref x, .ref p1, .ref p2, .int 0] (upd H1 p2 (.lst ((lfKeys (.chg r0 k f0 l0)).map V.str))) _ _
    refine lfi_q (l := .chg r0 k f0 l0) T hx ok (g1.trans g2) (g2 _ _ e1) (SqL.of e2) fun ln H3 nl o3 el ex => ?_
    have nlx : ln ≠ x := fun z => by rw [z, hx] at nl; cases nl
    refine rd_seq ⟨_, rfl, _, rfl, x, C, dx, _, rfl, ex, T.cl, T.a_rank, (by show 3 < 1000; decide), ?_⟩
    refine rd_seq ⟨_, rfl, _, rfl, x, C, dx, _, rfl, upd_same, T.cl, T.a_key, (by show 4 < 1000; decide), ?_⟩
    refine rd_seq ⟨_, rfl, _, rfl, x, C, dx, _, rfl, upd_same, T.cl, T.a_first, (by show 5 < 1000; decide), ?_⟩
    refine ⟨_, rfl, _, rfl, x, C, dx, _, rfl, upd_same, T.cl, T.a_last, (by show 6 < 1000; decide), ?_⟩
    rw [upd_upd, upd_upd, upd_upd]
    exact q ln _ nl (fun b o e n => by rw [upd_ne n]; exact o3 _ _ e n) (by rw [upd_ne nlx]; exact el) upd_same
end
end Mine
namespace Mine
open PySem L2
abbrev sInitB : Stmt := inClass (top 24) 0
abbrev sInitK : Stmt := inClass (top 25) 0
abbrev sInitC : Stmt := inClass (top 26) 0
structure Cs where
  num : Addr
  val : Addr
  gth : Addr
  snc : Addr
  prt : Addr
  chg : Addr
  rck : Addr
  chc : Addr
def Cs.all (c : Cs) : List Addr := [c.num, c.val, c.gth, c.snc, c.prt, c.chg, c.rck, c.chc]
def lfC (c : Cs) : Lf → Addr
  | .num _ => c.num
  | .val _ _ => c.val
  | .gth _ _ _ _ => c.gth
  | .snc _ _ _ _ => c.snc
  | .prt _ _ _ _ => c.prt
  | .chg _ _ _ _ => c.chg
def brC (c : Cs) (w : Str) : Addr := if w ∈ rckW then c.rck else c.chc
theorem lfC_in (c : Cs) (l : Lf) : lfC c l ∈ c.all := by
  cases l <;> simp [lfC, Cs.all]
theorem brC_in (c : Cs) (w : Str) : brC c w ∈ c.all := by
  unfold brC
  split <;> simp [Cs.all]
inductive LfX (c : Cs) (l : Lf) (H : Hp) (x : Addr) : Prop
  | mk (dx ln : Addr) (h1 : H x = some (.ins (lfC c l) dx (lfFs l ln))) (h2 : H ln = some (.lst ((onceL (lfKeys l)).map V.str))) : LfX c l H x
def brFs (n : Nat) (w : Str) (xs : List Nd) (ln li : Addr) : List (Str × V) := qf3 (jn (wordsN (n + 1) (.brk w xs))) ln (depthN (n + 1) (.brk w xs)) ++ ([("word", V.str w), ("inner", V.ref li)] : List (Str × V))
inductive BrX (c : Cs) (n : Nat) (w : Str) (xs : List Nd) (F : Addr → Nd → Prop) (H : Hp) (x : Addr) : Prop
  | mk (dx ln li : Addr) (as : List Addr) (h1 : H x = some (.ins (brC c w) dx (brFs n w xs ln li))) (h2 : H ln = some (.lst ((onceL (keysN (n + 1) (.brk w xs))).map V.str))) (h3 : H li = some (.lst (as.map V.ref))) (h4 : Paired F as xs) : BrX c n w xs F H x
def QnAt (c : Cs) : Nat → Nd → Hp → Addr → Prop
  | 0, .leaf l, H, x => LfX c l H x
  | 0, .brk _ _, _, _ => False
  | _ + 1, .leaf l, H, x => LfX c l H x
  | n + 1, .brk w xs, H, x => BrX c n w xs (fun a q => QnAt c n q H a) H x
theorem qn_leaf {c : Cs} {n : Nat} {l : Lf} {H : Hp} {x : Addr} : QnAt c n (.leaf l) H x ↔ LfX c l H x := by cases n <;> exact Iff.rfl
def Kq (c : Cs) (H H' : Hp) : Prop := (∀ b C dx fs, H b = some (.ins C dx fs) → C ∈ c.all → H' b = some (.ins C dx fs)) ∧ ∀ b xs, H b = some (.lst xs) → (∀ v ∈ xs, v = .non ∨ (∃ z, v = .str z) ∨ ∃ a, v = .ref a) → H' b = some (.lst xs)
theorem LfX.keep {c : Cs} {l : Lf} {H H' : Hp} {x : Addr} (h : LfX c l H x) (g : Kq c H H') : LfX c l H' x := by
  obtain ⟨dx, ln, h1, h2⟩ := h
  refine ⟨dx, ln, g.1 _ _ _ _ h1 (lfC_in c l), g.2 _ _ h2 fun v hv => ?_⟩
  obtain ⟨z, _, rfl⟩ := List.mem_map.mp hv
  exact .inr (.inl ⟨z, rfl⟩)
theorem QnAt.keep {c : Cs} {H H' : Hp} (g : Kq c H H') : ∀ {n : Nat} {nd : Nd} {x : Addr}, QnAt c n nd H x → QnAt c n nd H' x
  | 0, .leaf l, x, h => LfX.keep (show LfX c l H x from h) g
  | 0, .brk _ _, _, h => (show False from h).elim
  | _ + 1, .leaf l, x, h => LfX.keep (show LfX c l H x from h) g
  | n + 1, .brk w xs, x, h => by
    obtain ⟨dx, ln, li, as, h1, h2, h3, h4⟩ : BrX c n w xs (fun a q => QnAt c n q H a) H x := h
    refine BrX.mk dx ln li as (g.1 _ _ _ _ h1 (brC_in c w)) (g.2 _ _ h2 fun v hv => ?_) (g.2 _ _ h3 fun v hv => ?_) (Paired.mono (fun a q h => QnAt.keep g h) h4)
    · obtain ⟨z, _, rfl⟩ := List.mem_map.mp hv
      exact .inr (.inl ⟨z, rfl⟩)
    · obtain ⟨z, _, rfl⟩ := List.mem_map.mp hv
      exact .inr (.inr ⟨z, rfl⟩)
theorem Kq.grow {c : Cs} {H H' : Hp} (g : Grow H H') : Kq c H H' := ⟨fun _ _ _ _ e _ => g _ _ e, fun _ _ e _ => g _ _ e⟩
theorem br_names (n : Nat) (w : Str) (xs : List Nd) (ln li : Addr) : ∀ p ∈ brFs n w xs ln li, p.1 ∈ qNames := by
  have key : ∀ {fs : List (Str × V)} {ks : List Str}, fs.map (·.1) = ks → (∀ k ∈ ks, k ∈ qNames) → ∀ p ∈ fs, p.1 ∈ qNames := fun e h p hp => h _ (by rw [← e]; exact List.mem_map_of_mem hp)
  exact key (ks := [Str.ofString "written", Str.ofString "names", Str.ofString "levels", Str.ofString "word", Str.ofString "inner"]) rfl (by decide +kernel)
theorem QnAt.at {c : Cs} {H : Hp} {n : Nat} {nd : Nd} {x : Addr} (h : QnAt c n nd H x) : ∃ C ln, C ∈ c.all ∧ QAt H x C ln (jn (wordsN n nd)) (onceL (keysN n nd)) (depthN n nd) := by
  cases nd with
  | leaf l =>
    obtain ⟨dx, ln, h1, h2⟩ := qn_leaf.mp h
    rw [wN_leaf, kN_leaf, dN_leaf]
    exact ⟨_, ln, lfC_in c l, ⟨dx, lfMore l, h1, lf_names l ln⟩, h2⟩
  | brk w xs =>
    cases n with
    | zero => exact (show False from h).elim
    | succ n =>
      obtain ⟨dx, ln, li, as, h1, h2, h3, h4⟩ : BrX c n w xs (fun a q => QnAt c n q H a) H x := h
      exact ⟨_, ln, brC_in c w, ⟨dx, _, h1, br_names n w xs ln li⟩, h2⟩
theorem QAt.ob' {H : Hp} {x C ln : Addr} {tx : Str} {ks : List Str} {d : Int} (h : QAt H x C ln tx ks d) {m : Str} (hm : m ∉ qNames) : ∃ dx fs, H x = some (.ins C dx fs) ∧ fs.lookup m = none := by
  obtain ⟨dx, r, e, k⟩ := h.ob
  exact ⟨dx, _, e, q_no hm k⟩
theorem paired_get {α β : Type} {F : α → β → Prop} : ∀ {xs : List α} {ys : List β} {i : Nat} {x : α}, Paired F xs ys → xs[i]? = some x → ∃ y, ys[i]? = some y ∧ F x y
  | _, _, 0, _, .cons a _, h => by
    cases h
    exact ⟨_, rfl, a⟩
  | _, _, i + 1, _, .cons _ t, h => paired_get (i := i) t h
  | _, _, 0, _, .nil, h => nomatch h
  | _, _, _ + 1, _, .nil, h => nomatch h
theorem paired_len {α β : Type} {F : α → β → Prop} : ∀ {xs : List α} {ys : List β}, Paired F xs ys → xs.length = ys.length
  | _, _, .nil => rfl
  | _, _, .cons _ t => by rw [List.length_cons, List.length_cons, paired_len t]
theorem topF_ge : ∀ (ns : List Int) (a : Int), a ≤ ns.foldl (fun a b => if b > a then b else a) a ∧ ∀ x ∈ ns, x ≤ ns.foldl (fun a b => if b > a then b else a) a
  | [], a => ⟨Int.le_refl _, fun _ h => nomatch h⟩
  | n :: ns, a => by
    obtain ⟨h1, h2⟩ := topF_ge ns (if n > a then n else a)
    have hn : a ≤ (if n > a then n else a) ∧ n ≤ (if n > a then n else a) := by
      split <;> omega
    refine ⟨Int.le_trans hn.1 h1, fun x hx => ?_⟩
    rcases List.mem_cons.mp hx with z | hx
    · rw [z]; exact Int.le_trans hn.2 h1
    · exact h2 x hx
theorem topF_le : ∀ (ns : List Int) (a m : Int), a ≤ m → (∀ x ∈ ns, x ≤ m) → ns.foldl (fun a b => if b > a then b else a) a ≤ m
  | [], a, m, h, _ => h
  | n :: ns, a, m, h, hn => topF_le ns _ m (by have := hn n List.mem_cons_self; show (if n > a then n else a) ≤ m; split <;> omega) fun x hx => hn x (List.mem_cons_of_mem _ hx)
theorem top_eq {ns : List Int} {M : Int} (h0 : 0 ≤ M) (h1 : M ∈ ns) (h2 : ∀ x ∈ ns, x ≤ M) : M = topI ns :=
  Int.le_antisymm ((topF_ge ns 0).2 M h1) (topF_le ns 0 M h0 h2)
theorem depth_ge : ∀ (n : Nat) (nd : Nd), 0 ≤ depthN n nd
  | 0, _ => Int.le_refl _
  | _ + 1, .leaf _ => Int.le_refl _
  | n + 1, .brk _ xs => by
    have := (topF_ge (xs.map (depthN n)) 0).1
    show 0 ≤ 1 + topI (xs.map (depthN n))
    unfold topI
    omega
theorem compB_lst2 {K : PySem.W.Frag} {la : Addr} {xs ys0 : List V} {sub : List Nat} {te : TE} {σ : St} {Q : VK} {H : Hp} (hn : xs.length < 1000) (hl : ys0.length = xs.length) (ha : H la = some (.lst xs)) (hte : ∀ (i : Nat) (x y : V) (H2 : Hp) (R : VK), xs[i]? = some x → ys0[i]? = some y → Grow H H2 → R y H2 → te (some x :: subσ sub σ) H2 R)
    (hq : ∀ (D : Addr), H D = none → Q (.ref D) (upd H D (.lst ys0))) : CompB (Itl K la) sub (fun _ H Q => Q true H) te σ Q H := by
  intro D nD
  have nl : la ≠ D := ne_of_none ha nD
  refine comp_list (K := K) (a := la) (xs := xs) (sub := sub) (tt := fun _ H Q => Q true H) (te := te) (Q := Q) (σ := σ) (fun i ys H2 => ys = ys0.take i ∧ H2 = upd H D (.lst ys)) ⟨by rw [List.take_zero], rfl⟩ (fun i ys H2 _ hh => ?_) (fun i x ys H2 hi hh => ?_) fun ys H2 hh => ?_
  · obtain ⟨_, rfl⟩ := hh
    exact SqL.of (by rw [upd_ne nl]; exact ha)
  · obtain ⟨rfl, rfl⟩ := hh
    have hil := (List.getElem?_eq_some_iff.mp hi).1
    have hy : ys0[i]? = some ys0[i] := List.getElem?_eq_getElem (by omega)
    refine iteT (hte i x _ _ _ hi hy (laid nD).1 ⟨upd_same, ?_, ?_, upd_upd⟩)
    · rw [List.length_take]; exact small1000 (by omega)
    · rw [List.take_add_one, hy]; rfl
  · obtain ⟨rfl, rfl⟩ := hh
    rw [← hl, List.take_length]
    exact hq D nD
theorem text_len {n : Nat} {nd : Nd} (h : NdOk n nd) (h3 : n ≤ 2) : (jn (wordsN n nd)).length ≤ 15000 := by
  have := jn_len (ws := wordsN n nd) (m := 79) fun w hw => (words_wd h w hw).len
  have hl := words_len h
  have hW : Wn n ≤ 125 := by
    rcases (show n = 0 ∨ n = 1 ∨ n = 2 by omega) with rfl | rfl | rfl <;> decide
  omega
theorem flat_congr {α : Type} {f g : α → List Nat} : ∀ {xs : List α}, (∀ x ∈ xs, f x = g x) → xs.flatMap f = xs.flatMap g
  | [], _ => rfl
  | x :: xs, h => by rw [List.flatMap_cons, List.flatMap_cons, h x List.mem_cons_self, flat_congr fun y hy => h y (List.mem_cons_of_mem _ hy)]
def brP (n : Nat) (w : Str) (xs : List Nd) : List Str := w :: xs.flatMap fun q => [opS, jn (wordsN n q), clS]
theorem brP_jn {n : Nat} {w : Str} {xs : List Nd} (h : ∀ q ∈ xs, NdOk n q) : jn (brP n w xs) = jn (wordsN (n + 1) (.brk w xs)) := by
  refine jn_eq (by unfold brP; simp) (by unfold wordsN; simp) ?_
  show fl 32 (w :: xs.flatMap fun q => [opS, jn (wordsN n q), clS]) = fl 32 (w :: xs.flatMap fun c => opS :: (wordsN n c ++ [clS]))
  rw [fl_cons, fl_cons, fl_flat, fl_flat]
  congr 1
  refine flat_congr fun q hq => ?_
  show fl 32 ([opS] ++ [jn (wordsN n q)] ++ [clS]) = fl 32 ([opS] ++ wordsN n q ++ [clS])
  rw [fl_app, fl_app, fl_app, fl_app, fl_jn (words_ne n (h q hq))]
inductive BrI (H : Hp) (x : Addr) (w : Str) (li lw lk : Addr) (n : Nat) (xs : List Nd) (i : Nat) (σ : St) (H2 : Hp) : Prop
  | mk (v5 : Option V) (h1 : σ = [some (.ref x), some (.str w), some (.ref li), some (.ref lw), some (.ref lk), v5]) (h2 : Grow H H2) (h3 : H2 lw = some (.lst ((brP n w (xs.take i)).map V.str))) (h4 : H2 lk = some (.lst (((xs.take i).flatMap fun q => onceL (keysN n q)).map V.str))) : BrI H x w li lw lk n xs i σ H2
def spInitB (K : PySem.W.Frag) (c : Cs) : Sp := fun vs H Q _ => ∃ (x C dx li : Addr) (w : Str) (n : Nat) (as : List Addr) (xs : List Nd), vs = [.ref x, .str w, .ref li] ∧ QuC K C ∧ H x = some (.ins C dx []) ∧ H li = some (.lst (as.map V.ref)) ∧ Paired (fun a q => QnAt c n q H a) as xs ∧ NdOk (n + 1) (.brk w xs) ∧ n ≤ 2 ∧
  ∀ (ln lj : Addr) (H' : Hp), H ln = none → H lj = none → Ofr x H H' → H' ln = some (.lst ((onceL (keysN (n + 1) (.brk w xs))).map V.str)) → H' lj = some (.lst (as.map V.ref)) → H' x = some (.ins C dx (brFs n w xs ln lj)) → Q .non H'
theorem free_of {H H' : Hp} (g : Grow H H') {a : Addr} (h : H' a = none) : H a = none := by
  cases e : H a with
  | none => rfl
  | some o => rw [g _ _ e] at h; cases h
section
variable {P : Program} {w : World} {K : PySem.W.Frag} {mg : Str → Option Value} {base : Heap}
theorem scInitB : FnScope ["self", "word", "inner", "words", "keys", "question"] ["self", "word", "inner"] (defScope sInitB) := ⟨rfl, rfl, rfl, by decide +kernel, rfl, by decide +kernel, by decide +kernel⟩
theorem ok_initB {c : Cs} {f f1 : Addr} {fd : FuncData} (F : Fun K "__init__" "Bracketed.__init__" sInitB f fd) (N : Free mg) {fd1 : FuncData} {CQ : Addr} {mc : Value} (CI : CMc P w K mg base "Question" "__init__" 2 ["self", "words", "keys", "depth"] (spInitQ K) CQ f1 fd1 mc) (VQ : ∀ C ∈ c.all, QuC K C) (VT : ∀ C ∈ c.all, MV P w K mg base CX0 "text" 1 ["self"] (spText K) C) (VA : ∀ C ∈ c.all, MV P w K mg base CX0 "asked_keys" 1 ["self"] (spAsked K) C) (VD : ∀ C ∈ c.all, MV P w K mg base CX0 "depth" 1 ["self"] (spDepthQ K) C) : FnOk P w K mg base CX0 3 f fd ["self", "word", "inner"] (spInitB K c) := by
  refine F.ok (k := 2) scInitB (fun vs H Q E h => ?_) (fun cdv A outer s H vs Q E hr h => ?_)
  · obtain ⟨x, C, dx, li, w, n, as, xs, rfl, _⟩ := h
    rfl
  · obtain ⟨x, C, dx, li, w, n, as, xs, rfl, T, hx, hli, hp, ok, h2, q⟩ := h
    have hu := hu_of hr
    refine ⟨_, (pss_cons (ps_set (i := 3) scInitB.nd rfl (Or.inl rfl) (pe_lst (pa_kons (pv 1) pa_nil)))
      (pss_cons (ps_set (i := 4) scInitB.nd rfl (Or.inl rfl) (pe_lst pa_nil))
      (pss_cons (ps_for PassesOwn.never rfl (pi_list (pv 2)) (pg_name (i := 5) scInitB.nd rfl (Or.inl rfl))
      (pss_cons (ps_expr (pe_bm PySem.F.plainAttrs_list PySem.F.slot_list_extend PySem.F.type_list_extend mt_extend (pv 3) (pa_kons (pe_lst (pa_kons pe_str (pa_kons (pe_methV0 VT (pv 5) (hr.mono (by decide)) pass0) (pa_kons pe_str pa_nil)))) pa_nil)))
      (pss_one (ps_expr (pe_bm PySem.F.plainAttrs_list PySem.F.slot_list_extend PySem.F.type_list_extend mt_extend (pv 4) (pa_kons (pe_methV0 VA (pv 5) (hr.mono (by decide)) pass0) pa_nil))))))
      (pss_cons (ps_expr (pe_clsM rfl CI.nm CI.h1 CI.h2 CI.h3 rfl CI.ok (hr.mono (by decide)) CI.kp CI.bd .nil pass0 (pa_kons (pv 0) (pa_kons (pv 3) (pa_kons (pv 4) (pa_kons (pe_op op_add pe_int (pe_callB (call_maxL rfl) (by rfl) N.max PyProof.Rows.Boot.«max» (pa_kons (pe_of (pec_compN rfl (pi_list (pv 2)) rfl rfl (by show ∀ p ∈ _, CapN [] p; decide) (by decide) rfl (by show ([Str.ofString "question"] : List Str).Nodup; decide) .nil (fun C fp s H => pts_nil) (fun C fp s H => (pe_methV0 VD (pv 0) (hr.mono (by decide)) pass0)))) pa_nil))) pa_nil))))))
      (pss_cons (ps_fld (pv 0) (pv 1) rfl)
      (pss_one (ps_fld (pv 0) (pe_callTy call_list_of (by rfl) N.list PyProof.Rows.Boot.«list» (pa_kons (pv 2) pa_nil)) rfl))))))), ?_⟩
    obtain ⟨hw, hxs⟩ : _ ∧ _ := ok
    have hl4 := brk_len hw
    have hal := paired_len hp
    refine rd_seq (rd_asg ⟨_, rfl, by show 1 ≤ sizeLine; decide, fun lw nlw => ?_⟩)
    dsimp only [gName, List.set_cons_zero, List.set_cons_succ]
    obtain ⟨g1, e1⟩ := laid (o := .lst [V.str w]) nlw
    generalize upd H lw _ = H1 at g1 e1 ⊢
    refine rd_seq (rd_asg ⟨by show 0 ≤ sizeLine; decide, fun lk nlk => ?_⟩)
    dsimp only [gName, List.set_cons_zero, List.set_cons_succ]
    have nwk : lw ≠ lk := ne_of_none e1 nlk
    have nlk0 := free_of g1 nlk
    obtain ⟨g2, e2⟩ := laid (o := .lst []) nlk
    have e1 := g2 _ _ e1
    have g12 := g1.trans g2
    generalize upd H1 lk _ = H2 at g12 e1 e2 ⊢
    refine rd_seq ⟨_, rfl, li, rfl, ⟨_, SqL.of (g12 _ _ hli)⟩, for_list (K := K) (a := li) (xs := as.map V.ref) (BrI H x w li lw lk n xs) ⟨none, rfl, g12, e1, e2⟩ (fun i σ H3 _ hh => ?_) (fun i v σ H3 hi hh => ?_) fun σ H3 hh => ?_⟩
    · obtain ⟨v5, rfl, g3, _, _⟩ := hh
      exact SqL.of (g3 _ _ hli)
    · obtain ⟨v5, rfl, g3, ew, ek⟩ := hh
      rw [List.getElem?_map] at hi
      obtain ⟨a, ha, rfl⟩ := Option.map_eq_some_iff.mp hi
      obtain ⟨q0, hq0, hqa⟩ := paired_get hp ha
      have hqx := List.mem_of_getElem? hq0
      have hil := (List.getElem?_eq_some_iff.mp hq0).1
      have et : xs.take (i + 1) = xs.take i ++ [q0] := by rw [List.take_add_one, hq0]; rfl
      dsimp only [gName, List.set_cons_zero, List.set_cons_succ]
      obtain ⟨C1, ln1, hC1, qa⟩ := (QnAt.keep (Kq.grow g3) hqa).at
      obtain ⟨dx1, fs1, ex1, ef1⟩ := qa.ob' (m := "text") (by decide +kernel)
      refine rd_seq (rd_expr ⟨_, rfl, .inl ⟨rfl, _, SqL.of ew⟩, ?_⟩)
      refine ⟨_, rfl, a, C1, dx1, fs1, rfl, ex1, hC1, ef1, a, C1, ln1, _, _, _, rfl, VQ C1 hC1, qa, by show 3 ≤ sizeLine; decide, fun p np => ?_⟩
      obtain ⟨g4, e4⟩ := laid (o := .lst [V.str opS, V.str (jn (wordsN n q0)), V.str clS]) np
      have npw : lw ≠ p := ne_of_none ew np
      have npk : lk ≠ p := ne_of_none ek np
      have ew4 := g4 _ _ ew
      have ek4 := g4 _ _ ek
      have g34 := g3.trans g4
      have hbl : (brP n w (xs.take i)).length ≤ 100 := by
        have h5 := flat_len (g := fun q => [opS, jn (wordsN n q), clS]) (m := 3) (xs.take i) (fun _ _ => Nat.le_refl _)
        rw [List.length_take] at h5
        show (w :: _).length ≤ 100
        rw [List.length_cons]
        omega
      refine ⟨lw, p, _, _, rfl, rfl, ew4, e4, ?_, ?_⟩
      · rw [List.length_map]
        have h3 : (brP n w (xs.take i)).length + 3 ≤ 1000 := by omega
        exact Nat.le_of_lt (small1000 h3)
      have qa5 := (QnAt.keep (Kq.grow (g3.trans g4)) hqa).at
      generalize hH5 : upd (upd H3 p _) lw _ = H5
      have gw : ∀ b o, H b = some o → H5 b = some o := fun b o e => by
        rw [← hH5, upd_ne (ne_of_none e nlw)]; exact g34 _ _ e
      have ew5 : H5 lw = some (.lst ((brP n w (xs.take (i + 1))).map V.str)) := by
        rw [← hH5, upd_same, et]
        show some (HO.lst ((w :: (xs.take i).flatMap _).map V.str ++ _)) = some (HO.lst ((w :: (xs.take i ++ [q0]).flatMap _).map V.str))
        rw [List.flatMap_append, List.map_cons, List.map_cons, List.map_append, List.flatMap_cons, List.flatMap_nil, List.append_nil]
        rfl
      have ek5 : H5 lk = some (.lst (((xs.take i).flatMap fun q => onceL (keysN n q)).map V.str)) := by rw [← hH5, upd_ne (Ne.symm nwk)]; exact ek4
      obtain ⟨C1, ln1, hC1, qa⟩ := (QnAt.keep (Kq.grow gw) hqa).at
      obtain ⟨dx1, fs1, ex1, ef1⟩ := qa.ob' (m := "asked_keys") (by decide +kernel)
      dsimp only
      refine rd_expr ⟨_, rfl, .inl ⟨rfl, _, SqL.of ek5⟩, ?_⟩
      refine ⟨_, rfl, a, C1, dx1, fs1, rfl, ex1, hC1, ef1, a, C1, ln1, _, _, _, rfl, VQ C1 hC1, qa, fun p2 np2 => ?_⟩
      obtain ⟨g6, e6⟩ := laid (o := .lst ((onceL (keysN n q0)).map V.str)) np2
      have hkn := Nat.le_trans (keys_len (hxs q0 hqx)) (Kn_le (show n ≤ 3 by omega))
      have ho : (onceL (keysN n q0)).length ≤ 512 := Nat.le_trans (once_len _ _ rfl) hkn
      have hks := flat_len (g := fun q => onceL (keysN n q)) (m := 128) (xs.take i) fun q hq => by
        have := keys_len (hxs q (List.mem_of_mem_take hq))
        have h8 : Kn n ≤ 128 := by rcases (show n = 0 ∨ n = 1 ∨ n = 2 by omega) with rfl | rfl | rfl <;> decide
        exact Nat.le_trans (once_len _ _ rfl) (by omega)
      rw [List.length_take] at hks
      refine ⟨lk, p2, _, _, rfl, rfl, g6 _ _ ek5, e6, ?_, ?_⟩
      · rw [List.length_map, List.length_map]
        exact Nat.le_trans (show _ ≤ 2000 by omega) (by decide)
      refine ⟨_, rfl, fun b o e => ?_, ?_, ?_⟩
      · rw [upd_ne (ne_of_none e nlk0)]; exact g6 _ _ (gw _ _ e)
      · rw [upd_ne nwk]; exact g6 _ _ ew5
      · rw [upd_same, et, List.flatMap_append, List.map_append, List.flatMap_cons, List.flatMap_nil, List.append_nil]
    · obtain ⟨v5, rfl, g3, ew, ek⟩ := hh
      rw [List.length_map, hal, List.take_length] at ew ek
      dsimp only [gName, List.set_cons_zero, List.set_cons_succ]
      have hli3 := g3 _ _ hli
      refine rd_seq (rd_expr ⟨_, rfl, _, rfl, _, rfl, rd_cons (rd_op ?_)⟩)
      dsimp only [tC]
      refine rd_cb (rd_cons (rd_comp ⟨_, rfl, li, rfl, ⟨_, SqL.of hli3⟩, compB_lst2 (ys0 := (xs.map (depthN n)).map V.int) (by rw [List.length_map]; omega) (by rw [List.length_map, List.length_map, List.length_map]; omega) hli3 (fun i v y H4 R hi hy g4 hR => ?_) fun D nD => ?_⟩))
      · rw [List.getElem?_map] at hi
        obtain ⟨a, ha, rfl⟩ := Option.map_eq_some_iff.mp hi
        obtain ⟨q0, hq0, hqa⟩ := paired_get hp ha
        rw [List.getElem?_map, List.getElem?_map, hq0] at hy
        cases (show some (V.int (depthN n q0)) = some y from hy)
        obtain ⟨C1, ln1, hC1, qa⟩ := (QnAt.keep (Kq.grow (g3.trans g4)) hqa).at
        obtain ⟨dx1, fs1, ex1, ef1⟩ := qa.ob' (m := "depth") (by decide +kernel)
        exact ⟨_, rfl, a, C1, dx1, fs1, rfl, ex1, hC1, ef1, a, C1, ln1, _, _, _, rfl, VQ C1 hC1, qa, hR⟩
      obtain ⟨g4, e4⟩ := laid (o := .lst ((xs.map (depthN n)).map V.int)) nD
      generalize upd H3 D _ = H4 at g4 e4 ⊢
      refine ⟨D, _, rfl, SqL.of e4, fun z => ?_, fun M hM1 hM2 => ?_⟩
      · rw [List.map_eq_nil_iff] at z
        rw [z] at hl4
        exact absurd hl4.1 (by decide)
      have hM0 : 0 ≤ M := by
        obtain ⟨q0, _, e⟩ := List.mem_map.mp hM1
        rw [← e]; exact depth_ge n q0
      have eM := top_eq hM0 hM1 hM2
      refine ⟨_, _, rfl, rfl, ?_⟩
      dsimp only [tCons, tC, tNil, List.append_nil, List.cons_append, List.nil_append]
      have eD : 1 + M = depthN (n + 1) (.brk w xs) := by rw [eM]; rfl
      rw [eD]
      have gH4 := g3.trans g4
      have hkl := flat_len (g := fun q => onceL (keysN n q)) (m := 128) xs fun q hq => by
        have := keys_len (hxs q hq)
        have h8 : Kn n ≤ 128 := by rcases (show n = 0 ∨ n = 1 ∨ n = 2 by omega) with rfl | rfl | rfl <;> decide
        exact Nat.le_trans (once_len _ _ rfl) (by omega)
      have hbl := flat_len (g := fun q => [opS, jn (wordsN n q), clS]) (m := 3) xs (fun _ _ => Nat.le_refl _)
      refine ⟨x, C, dx, lw, lk, [], brP n w xs, xs.flatMap fun q => onceL (keysN n q), _, rfl, T, gH4 _ _ hx, by decide, g4 _ _ ew, SqL.of (g4 _ _ ek), by omega, jn_fits (fun v hv => ?_) ?_, fun ln H5 nl o5 el ex => ?_⟩
      · rcases List.mem_cons.mp hv with z | hv
        · rw [z]; exact Nat.le_trans (brk_wd hw).hi (by decide)
        · obtain ⟨q0, hq0, hv⟩ := List.mem_flatMap.mp hv
          refine (all_cons (P := fun v => v.length ≤ 15000) (by decide +kernel) (all_cons (text_len (hxs q0 hq0) h2) (all_cons (by decide +kernel) all_nil))) v hv
      · show (w :: _).length ≤ 1000
        rw [List.length_cons]; omega
      have ej := brP_jn (w := w) hxs
      unfold jn at ej
      rw [ej] at ex
      rw [once_flat] at el
      have nl0 := free_of gH4 nl
      have nlx : ln ≠ x := fun z => by rw [z, hx] at nl0; cases nl0
      refine rd_seq ⟨_, rfl, _, rfl, x, C, dx, _, rfl, ex, T.cl, T.a_word, (by show 3 < 1000; decide), ?_⟩
      have hli5 := o5 _ _ (g4 _ _ hli3) (ne_of hli hx (fun z => nomatch z))
      have nlix : li ≠ x := ne_of hli hx (fun z => nomatch z)
      refine ⟨_, rfl, li, _, rfl, .inl (SqL.of (by rw [upd_ne nlix]; exact hli5)), fun lj nj => ?_⟩
      have njx : lj ≠ x := fun z => by rw [z, upd_same] at nj; cases nj
      have nj5 : H5 lj = none := by rw [upd_ne njx] at nj; exact nj
      have nlj : ln ≠ lj := ne_of_none el nj5
      have nj0 : H lj = none := by
        cases e : H lj with
        | none => rfl
        | some o => rw [o5 _ _ (gH4 _ _ e) njx] at nj5; cases nj5
      refine ⟨_, rfl, x, C, dx, _, rfl, by rw [upd_ne (Ne.symm njx), upd_same], T.cl, T.a_inner, (by show 4 < 1000; decide), ?_⟩
      refine q ln lj _ nl0 nj0 (fun b o e nb => ?_) ?_ ?_ upd_same
      · rw [upd_ne nb, upd_ne (ne_of_none e nj0), upd_ne nb]; exact o5 _ _ (gH4 _ _ e) nb
      · rw [upd_ne nlx, upd_ne nlj, upd_ne nlx]; exact el
      · rw [upd_ne njx, upd_same]
end
inductive KidI (K : PySem.W.Frag) (c : Cs) (x C dx : Addr) (n : Nat) (w : Str) (as : List Addr) (xs : List Nd) (H : Hp) (Q : VK) : Prop
  | mk (T : QuC K C) (hx : H x = some (.ins C dx [])) (hp : Paired (fun a q => QnAt c n q H a) as xs) (ok : NdOk (n + 1) (.brk w xs)) (h2 : n ≤ 2) (q : ∀ (ln lj : Addr) (H' : Hp), H ln = none → H lj = none → Ofr x H H' → H' ln = some (.lst ((onceL (keysN (n + 1) (.brk w xs))).map V.str)) → H' lj = some (.lst (as.map V.ref)) → H' x = some (.ins C dx (brFs n w xs ln lj)) → Q .non H') : KidI K c x C dx n w as xs H Q
def spInitK (K : PySem.W.Frag) (c : Cs) : Sp := fun vs H Q _ => ∃ (x C dx a1 a2 : Addr) (w : Str) (n : Nat) (xs : List Nd), vs = [.ref x, .str w, .ref a1, .ref a2] ∧ KidI K c x C dx n w [a1, a2] xs H Q
def spInitC (K : PySem.W.Frag) (c : Cs) : Sp := fun vs H Q _ => ∃ (x C dx a1 a2 a3 a4 : Addr) (w : Str) (n : Nat) (xs : List Nd), vs = [.ref x, .str w, .ref a1, .ref a2, .ref a3, .ref a4] ∧ KidI K c x C dx n w [a1, a2, a3, a4] xs H Q
section
variable {P : Program} {w : World} {K : PySem.W.Frag} {mg : Str → Option Value} {base : Heap}
theorem scInitK : FnScope ["self", "word", "one", "other"] ["self", "word", "one", "other"] (defScope sInitK) := ⟨rfl, rfl, rfl, by decide +kernel, rfl, by decide +kernel, by decide +kernel⟩
theorem ok_initK {c : Cs} {f f1 : Addr} {fd : FuncData} (F : Fun K "__init__" "Reckoning.__init__" sInitK f fd) (N : Free mg) {fd1 : FuncData} {CB : Addr} {mc : Value} (CI : CMc P w K mg base "Bracketed" "__init__" 3 ["self", "word", "inner"] (spInitB K c) CB f1 fd1 mc) : FnOk P w K mg base CX0 4 f fd ["self", "word", "one", "other"] (spInitK K c) := by
  refine F.ok (k := 3) scInitK (fun vs H Q E h => ?_) (fun cdv A outer s H vs Q E hr h => ?_)
  · obtain ⟨x, C, dx, a1, a2, w, n, xs, rfl, _⟩ := h
    rfl
  · obtain ⟨x, C, dx, a1, a2, w, n, xs, rfl, T, hx, hp, ok, h2, q⟩ := h
    have hu := hu_of hr
    refine ⟨_, (pss_one (ps_expr (pe_clsM rfl CI.nm CI.h1 CI.h2 CI.h3 rfl CI.ok (hr.mono (by decide)) CI.kp CI.bd .nil pass0 (pa_kons (pv 0) (pa_kons (pv 1) (pa_kons (pe_lst (pa_kons (pv 2) (pa_kons (pv 3) pa_nil))) pa_nil)))))), ?_⟩
    refine rd_expr ⟨_, rfl, _, rfl, _, rfl, _, rfl, by show 2 ≤ sizeLine; decide, fun p np => ?_⟩
    obtain ⟨g1, e1⟩ := laid (o := .lst ([a1, a2].map V.ref)) np
    refine ⟨x, C, dx, p, w, n, [a1, a2], xs, rfl, T, g1 _ _ hx, e1, Paired.mono (fun a q0 h => QnAt.keep (Kq.grow g1) h) hp, ok, h2, fun ln lj H' nl nj o el ej ex => ?_⟩
    exact q ln lj H' (free_of g1 nl) (free_of g1 nj) (fun b u e n => o _ _ (g1 _ _ e) n) el ej ex
end
section
variable {P : Program} {w : World} {K : PySem.W.Frag} {mg : Str → Option Value} {base : Heap}
theorem scInitC : FnScope ["self", "word", "one", "other", "chosen", "otherwise"] ["self", "word", "one", "other", "chosen", "otherwise"] (defScope sInitC) := ⟨rfl, rfl, rfl, by decide +kernel, rfl, by decide +kernel, by decide +kernel⟩
theorem ok_initC {c : Cs} {f f1 : Addr} {fd : FuncData} (F : Fun K "__init__" "Choice.__init__" sInitC f fd) (N : Free mg) {fd1 : FuncData} {CB : Addr} {mc : Value} (CI : CMc P w K mg base "Bracketed" "__init__" 3 ["self", "word", "inner"] (spInitB K c) CB f1 fd1 mc) : FnOk P w K mg base CX0 4 f fd ["self", "word", "one", "other", "chosen", "otherwise"] (spInitC K c) := by
  refine F.ok (k := 3) scInitC (fun vs H Q E h => ?_) (fun cdv A outer s H vs Q E hr h => ?_)
  · obtain ⟨x, C, dx, a1, a2, a3, a4, w, n, xs, rfl, _⟩ := h
    rfl
  · obtain ⟨x, C, dx, a1, a2, a3, a4, w, n, xs, rfl, T, hx, hp, ok, h2, q⟩ := h
    have hu := hu_of hr
    refine ⟨_, (pss_one (ps_expr (pe_clsM rfl CI.nm CI.h1 CI.h2 CI.h3 rfl CI.ok (hr.mono (by decide)) CI.kp CI.bd .nil pass0 (pa_kons (pv 0) (pa_kons (pv 1) (pa_kons (pe_lst (pa_kons (pv 2) (pa_kons (pv 3) (pa_kons (pv 4) (pa_kons (pv 5) pa_nil))))) pa_nil)))))), ?_⟩
    refine rd_expr ⟨_, rfl, _, rfl, _, rfl, _, rfl, _, rfl, _, rfl, by show 4 ≤ sizeLine; decide, fun p np => ?_⟩
    obtain ⟨g1, e1⟩ := laid (o := .lst ([a1, a2, a3, a4].map V.ref)) np
    refine ⟨x, C, dx, p, w, n, [a1, a2, a3, a4], xs, rfl, T, g1 _ _ hx, e1, Paired.mono (fun a q0 h => QnAt.keep (Kq.grow g1) h) hp, ok, h2, fun ln lj H' nl nj o el ej ex => ?_⟩
    exact q ln lj H' (free_of g1 nl) (free_of g1 nj) (fun b u e n => o _ _ (g1 _ _ e) n) el ej ex
end
end Mine
namespace Mine
open PySem L2
abbrev sSingle : Stmt := top 42
abbrev sQh : Stmt := top 41
abbrev sQsh : Stmt := top 43
abbrev sQof : Stmt := top 40
structure MkC (P : Program) (w : World) (K : PySem.W.Frag) (mg : Str → Option Value) (base : Heap) (cn : Str) (k : Nat) (ps : List Str) (sp : Sp) (C f : Addr) (fd : FuncData) : Prop where
  km : Mk K C f
  ok : FnOk P w K mg base CX0 k f fd ps sp
  nm : mg cn = some (.ref C)
  bd : Binds K fd ps []
theorem Ofr.trans {r : Addr} {H H1 H2 : Hp} (h : Ofr r H H1) (g : Ofr r H1 H2) : Ofr r H H2 := fun b o e n => g _ _ (h _ _ e n) n
theorem Ofr.refl {r : Addr} {H : Hp} : Ofr r H H := fun _ _ e _ => e
theorem RdAt.free {R : Addr} {H H1 : Hp} {r lw x : Addr} {ws : List Str} {pl : Nat} {op : Int} (h1 : RdAt R H1 r lw ws pl op) (o1 : Ofr r H H1) (nx : H1 x = none) : H x = none := by
  cases e : H x with
  | none => rfl
  | some o =>
    by_cases z : x = r
    · obtain ⟨d, er⟩ := h1.ob
      rw [z, er] at nx; cases nx
    · rw [o1 _ _ e z] at nx; cases nx
theorem RdAt.made {R : Addr} {H1 H' : Hp} {r lw x dx C : Addr} {ws : List Str} {pl : Nat} {op : Int} (h1 : RdAt R H1 r lw ws pl op) (nx : H1 x = none) (nd : H1 dx = none) (o : Ofr x (upd (upd H1 dx (.own x)) x (.ins C dx [])) H') : Grow H1 H' ∧ RdAt R H' r lw ws pl op := by
  have g : Grow H1 H' := fun b u e => o _ _ (by rw [upd_ne (ne_of_none e nx), upd_ne (ne_of_none e nd)]; exact e) (ne_of_none e nx)
  exact ⟨g, h1.keep g⟩
def wo (H0 H : Hp) : Hp := fun b => match H0 b with
  | none => H b
  | some _ => none
theorem wo_new {H0 H : Hp} {b : Addr} (h : H0 b = none) : wo H0 H b = H b := by unfold wo; rw [h]
theorem wo_get {H0 H : Hp} {b : Addr} {o : HO} (h : wo H0 H b = some o) : H0 b = none ∧ H b = some o := by
  unfold wo at h
  cases e : H0 b with
  | none => rw [e] at h; exact ⟨rfl, h⟩
  | some _ => rw [e] at h; cases h
theorem wo_in {H0 H : Hp} : Grow (wo H0 H) H := fun b o e => (wo_get e).2
theorem wo_grow {H0 H H' : Hp} (g : ∀ b o, H0 b = none → H b = some o → H' b = some o) : Grow (wo H0 H) (wo H0 H') := fun b o e => by
  obtain ⟨h1, h2⟩ := wo_get e
  rw [wo_new h1]; exact g _ _ h1 h2
theorem wo_sub {H0 H1 H : Hp} (g : ∀ b, H1 b = none → H0 b = none) : Grow (wo H1 H) (wo H0 H) := fun b o e => by
  obtain ⟨h1, h2⟩ := wo_get e
  rw [wo_new (g _ h1)]; exact h2
theorem mk_leaf {K : PySem.W.Frag} {c : Cs} {R : Addr} {H H1 : Hp} {r lw x dx : Addr} {ws : List Str} {pl : Nat} {op : Int} {l : Lf} {Q : VK} (VQ : ∀ C ∈ c.all, QuC K C) (ok : LfOk l) (o1 : Ofr r H H1) (h1 : RdAt R H1 r lw ws pl op) (nx : H1 x = none) (nd : H1 dx = none)
    (q : ∀ x H', H x = none → Ofr r H H' → RdAt R H' r lw ws pl op → LfX c l (wo H H') x → Q (.ref x) H') : LfI K (lfC c l) x dx l (upd (upd H1 dx (.own x)) x (.ins (lfC c l) dx [])) (fun v H2 => v = .non ∧ Q (.ref x) H2) := by
  refine ⟨VQ _ (lfC_in c l), upd_same, ok, fun ln H' nl o el ex => ⟨rfl, ?_⟩⟩
  obtain ⟨g, h'⟩ := h1.made nx nd o
  have nl1 : H1 ln = none := by
    cases e : H1 ln with
    | none => rfl
    | some u => rw [upd_ne (ne_of_none e nx), upd_ne (ne_of_none e nd), e] at nl; cases nl
  exact q x H' (h1.free o1 nx) (fun b u e n => g _ _ (o1 _ _ e n)) h' ⟨dx, ln, by rw [wo_new (h1.free o1 nx)]; exact ex, by rw [wo_new (h1.free o1 nl1)]; exact el⟩
def IsGth : Lf → Prop
  | .gth _ _ _ _ => True
  | _ => False
def wTail (l : Lf) : List Str := (lfWords l).tail
def wHead (l : Lf) : Str := (lfWords l).headD (Str.ofString "")
theorem w_ht (l : Lf) : lfWords l = wHead l :: wTail l := by cases l <;> rfl
inductive SgI (c : Cs) (R : Addr) (l : Lf) (r : Addr) (H : Hp) (Q : VK) : Prop
  | mk (lw : Addr) (ws : List Str) (pl : Nat) (op : Int) (ok : LfOk l) (ng : ¬ IsGth l) (h : RdAt R H r lw ws pl op) (hat : At ws pl (wTail l)) (q : ∀ x H', H x = none → Ofr r H H' → RdAt R H' r lw ws (pl + (wTail l).length) op → LfX c l (wo H H') x → Q (.ref x) H') : SgI c R l r H Q
def spSingle (c : Cs) (R : Addr) : Sp := fun vs H Q _ => ∃ (r : Addr) (l : Lf), vs = [.ref r, .str (wHead l)] ∧ SgI c R l r H Q
theorem wl {w : Str} (h : Wd w) : w.length < sizeLine := Nat.lt_of_le_of_lt h.hi (by decide)
theorem nl {w : Str} (h : IsNm w) : w.length < sizeLine := wl (nm_wd h)
section
variable {P : Program} {w : World} {K : PySem.W.Frag} {mg : Str → Option Value} {base : Heap}
theorem scSingle : FnScope ["reader", "word", "key", "bound", "first", "one", "other", "rank"] ["reader", "word"] (defScope sSingle) := ⟨rfl, rfl, rfl, by decide +kernel, rfl, by decide +kernel, by decide +kernel⟩
theorem ok_single {c : Cs} {f f1 f2 f3 f4 f5 f6 f7 f8 f9 R : Addr} {fd : FuncData} (F : Fun K "single_here" "single_here" sSingle f fd) (N : Free mg) (Z : Con mg) (VQ : ∀ C ∈ c.all, QuC K C) {fd1 : FuncData} (MV_ : MC P w K mg base R "value_here" 4 ["self"] [] [] (spValH R) f1 fd1) {fd2 : FuncData} (MD : MC P w K mg base R "day_here" 4 ["self", "earliest"] [] [] (spDayH R) f2 fd2) {fd3 : FuncData} (MK : MC P w K mg base R "key_here" 3 ["self"] [] [] (spKeyH R) f3 fd3) {fd4 : FuncData} (MN : MC P w K mg base R "number_here" 3 ["self", "low", "high"] [] [] (spNumH R) f4 fd4) {fd5 : FuncData} (KNum : MkC P w K mg base "Number" 3 ["self", "number"] (spINum K) c.num f5 fd5) {fd6 : FuncData} (KVal : MkC P w K mg base "Value" 3 ["self", "key", "day"] (spIVal K) c.val f6 fd6) {fd7 : FuncData} (KSnc : MkC P w K mg base "Since" 3 ["self", "key", "bound", "first", "last"] (spISnc K) c.snc f7 fd7) {fd8 : FuncData} (KPrt : MkC P w K mg base "Part" 3 ["self", "one", "other", "first", "last"] (spIPrt K) c.prt f8 fd8) {fd9 : FuncData} (KChg : MkC P w K mg base "Change" 3 ["self", "rank", "key", "first", "last"] (spIChg K) c.chg f9 fd9) : FnOk P w K mg base CX0 5 f fd ["reader", "word"] (spSingle c R) := by
  obtain ⟨t1, c1⟩ := Z.rank
  refine F.ok (k := 4) scSingle (fun vs H Q E h => ?_) (fun cdv A outer s H vs Q E hr h => ?_)
  · obtain ⟨r, l, rfl, _⟩ := h
    rfl
  · obtain ⟨r, l, rfl, lw, ws, pl, op, ok, ng, h, hat, q⟩ := h
    have hu := hu_of hr
    refine ⟨_, (pss_cons (ps_if (pt_cmpR op_eq (pv 1) pe_str (nomark _)) (pss_one (ps_ret (pe_make KNum.km KNum.ok (hr.mono (by decide)) rfl KNum.nm KNum.bd .nil pass0 (pa_kons (pe_meth0 (pv 0) MV_.cl MV_.mt MV_.ok (hr.mono (by decide)) MV_.bd MV_.dv pass0) pa_nil)))) pss_nil)
      (pss_cons (ps_if (pt_cmpR op_eq (pv 1) pe_str (nomark _)) (pss_cons (ps_set (i := 2) scSingle.nd rfl (Or.inl rfl) (pe_meth0 (pv 0) MK.cl MK.mt MK.ok (hr.mono (by decide)) MK.bd MK.dv pass0))
      (pss_one (ps_ret (pe_make KVal.km KVal.ok (hr.mono (by decide)) rfl KVal.nm KVal.bd .nil pass0 (pa_kons (pv 2) (pa_kons (pe_meth (pv 0) MD.cl MD.mt MD.ok (hr.mono (by decide)) MD.bd MD.dv pass0 (pa_kons pe_int pa_nil)) pa_nil)))))) pss_nil)
      (pss_cons (ps_if (pt_cmpR op_eq (pv 1) pe_str (nomark _)) (pss_cons (ps_set (i := 2) scSingle.nd rfl (Or.inl rfl) (pe_meth0 (pv 0) MK.cl MK.mt MK.ok (hr.mono (by decide)) MK.bd MK.dv pass0))
      (pss_cons (ps_set (i := 3) scSingle.nd rfl (Or.inl rfl) (pe_meth0 (pv 0) MV_.cl MV_.mt MV_.ok (hr.mono (by decide)) MV_.bd MV_.dv pass0))
      (pss_cons (ps_set (i := 4) scSingle.nd rfl (Or.inl rfl) (pe_meth (pv 0) MD.cl MD.mt MD.ok (hr.mono (by decide)) MD.bd MD.dv pass0 (pa_kons pe_int pa_nil)))
      (pss_one (ps_ret (pe_make KSnc.km KSnc.ok (hr.mono (by decide)) rfl KSnc.nm KSnc.bd .nil pass0 (pa_kons (pv 2) (pa_kons (pv 3) (pa_kons (pv 4) (pa_kons (pe_meth (pv 0) MD.cl MD.mt MD.ok (hr.mono (by decide)) MD.bd MD.dv pass0 (pa_kons (pv 4) pa_nil)) pa_nil)))))))))) pss_nil)
      (pss_cons (ps_if (pt_cmpR op_eq (pv 1) pe_str (nomark _)) (pss_cons (ps_set (i := 5) scSingle.nd rfl (Or.inl rfl) (pe_meth0 (pv 0) MK.cl MK.mt MK.ok (hr.mono (by decide)) MK.bd MK.dv pass0))
      (pss_cons (ps_set (i := 6) scSingle.nd rfl (Or.inl rfl) (pe_meth0 (pv 0) MK.cl MK.mt MK.ok (hr.mono (by decide)) MK.bd MK.dv pass0))
      (pss_cons (ps_set (i := 4) scSingle.nd rfl (Or.inl rfl) (pe_meth (pv 0) MD.cl MD.mt MD.ok (hr.mono (by decide)) MD.bd MD.dv pass0 (pa_kons pe_int pa_nil)))
      (pss_one (ps_ret (pe_make KPrt.km KPrt.ok (hr.mono (by decide)) rfl KPrt.nm KPrt.bd .nil pass0 (pa_kons (pv 5) (pa_kons (pv 6) (pa_kons (pv 4) (pa_kons (pe_meth (pv 0) MD.cl MD.mt MD.ok (hr.mono (by decide)) MD.bd MD.dv pass0 (pa_kons (pv 4) pa_nil)) pa_nil)))))))))) pss_nil)
      (pss_cons (ps_set (i := 7) scSingle.nd rfl (Or.inl rfl) (pe_meth (pv 0) MN.cl MN.mt MN.ok (hr.mono (by decide)) MN.bd MN.dv pass0 (pa_kons pe_int (pa_kons (pe_glob (v := .int 400) (by rfl) c1 ⟨_, rfl⟩) pa_nil))))
      (pss_cons (ps_set (i := 2) scSingle.nd rfl (Or.inl rfl) (pe_meth0 (pv 0) MK.cl MK.mt MK.ok (hr.mono (by decide)) MK.bd MK.dv pass0))
      (pss_cons (ps_set (i := 4) scSingle.nd rfl (Or.inl rfl) (pe_meth (pv 0) MD.cl MD.mt MD.ok (hr.mono (by decide)) MD.bd MD.dv pass0 (pa_kons pe_int pa_nil)))
      (pss_one (ps_ret (pe_make KChg.km KChg.ok (hr.mono (by decide)) rfl KChg.nm KChg.bd .nil pass0 (pa_kons (pv 7) (pa_kons (pv 2) (pa_kons (pv 4) (pa_kons (pe_meth (pv 0) MD.cl MD.mt MD.ok (hr.mono (by decide)) MD.bd MD.dv pass0 (pa_kons (pv 4) pa_nil)) pa_nil)))))))))))))), ?_⟩
    cases l with
    | gth w ks f0 l0 => exact absurd True.intro ng
    | num z =>
      refine rd_seq (rd_if ⟨_, rfl, rfl, _, rfl, ?_⟩)
      refine iteT ?_
      have hz := id ok
      have o0 : Ofr r H H := Ofr.refl
      obtain ⟨dx0, ho0⟩ := h.ob
      have hx0 := hat.hd
      refine rd_ret ⟨_, rfl, r, dx0, _, rfl, ho0, rf_no _ _ _ (by decide +kernel) (by decide +kernel) (by decide +kernel), r, lw, ws, _, op, z, _, rfl, h, hx0, wl (si_wd hz.1 hz.2), si_num hz.1 hz.2 hz.1 hz.2, fun H9 p9 h9 => ?_⟩
      intro x dx nx nd _
      exact ⟨x, _, dx, z, rfl, mk_leaf (l := .num z) VQ ok (o0.trans p9) h9 nx nd q⟩
    | val k d =>
      refine rd_seq (rd_if ⟨_, rfl, rfl, _, rfl, ?_⟩)
      rw [show decide (V.str (wHead (.val k d)) = V.str (Str.ofString "number")) = false from (show decide (V.str (Str.ofString "value") = V.str (Str.ofString "number")) = false from by decide +kernel)]
      refine iteF (rd_next ?_)
      dsimp only
      refine rd_seq (rd_if ⟨_, rfl, rfl, _, rfl, ?_⟩)
      refine iteT ?_
      obtain ⟨hk, d0, d1⟩ := id ok
      have o0 : Ofr r H H := Ofr.refl
      obtain ⟨dx0, ho0⟩ := h.ob
      have hx0 := hat.hd
      have at0 := hat.tl
      refine rd_seq (rd_asg ⟨_, rfl, r, dx0, _, rfl, ho0, rf_no _ _ _ (by decide +kernel) (by decide +kernel) (by decide +kernel), r, lw, ws, _, op, k, rfl, h, hx0, nl hk, hk, fun H0 p0 h0_ => ?_⟩)
      dsimp only [gName, List.set_cons_zero, List.set_cons_succ]
      have o1 := o0.trans p0
      obtain ⟨dx1, ho1⟩ := h0_.ob
      have hx1 := at0.hd
      refine rd_ret ⟨_, rfl, _, rfl, r, dx1, _, rfl, ho1, rf_no _ _ _ (by decide +kernel) (by decide +kernel) (by decide +kernel), r, lw, ws, _, op, 0, d, _, rfl, h0_, hx1, wl (si_wd (by omega) (by omega)), si_num (by omega) (by omega) (by omega) (by omega), fun H9 p9 h9 => ?_⟩
      intro x dx nx nd _
      exact ⟨x, _, dx, k, d, rfl, mk_leaf (l := .val k d) VQ ok (o1.trans p9) h9 nx nd q⟩
    | snc k b0 f0 l0 =>
      refine rd_seq (rd_if ⟨_, rfl, rfl, _, rfl, ?_⟩)
      rw [show decide (V.str (wHead (.snc k b0 f0 l0)) = V.str (Str.ofString "number")) = false from (show decide (V.str (Str.ofString "since") = V.str (Str.ofString "number")) = false from by decide +kernel)]
      refine iteF (rd_next ?_)
      dsimp only
      refine rd_seq (rd_if ⟨_, rfl, rfl, _, rfl, ?_⟩)
      rw [show decide (V.str (wHead (.snc k b0 f0 l0)) = V.str (Str.ofString "value")) = false from (show decide (V.str (Str.ofString "since") = V.str (Str.ofString "value")) = false from by decide +kernel)]
      refine iteF (rd_next ?_)
      dsimp only
      refine rd_seq (rd_if ⟨_, rfl, rfl, _, rfl, ?_⟩)
      refine iteT ?_
      obtain ⟨hk, hb, h1, h2, h3⟩ := id ok
      have o0 : Ofr r H H := Ofr.refl
      obtain ⟨dx0, ho0⟩ := h.ob
      have hx0 := hat.hd
      have at0 := hat.tl
      refine rd_seq (rd_asg ⟨_, rfl, r, dx0, _, rfl, ho0, rf_no _ _ _ (by decide +kernel) (by decide +kernel) (by decide +kernel), r, lw, ws, _, op, k, rfl, h, hx0, nl hk, hk, fun H0 p0 h0_ => ?_⟩)
      dsimp only [gName, List.set_cons_zero, List.set_cons_succ]
      have o1 := o0.trans p0
      obtain ⟨dx1, ho1⟩ := h0_.ob
      have hx1 := at0.hd
      have at1 := at0.tl
      refine rd_seq (rd_asg ⟨_, rfl, r, dx1, _, rfl, ho1, rf_no _ _ _ (by decide +kernel) (by decide +kernel) (by decide +kernel), r, lw, ws, _, op, b0, _, rfl, h0_, hx1, wl (si_wd hb.1 hb.2), si_num hb.1 hb.2 hb.1 hb.2, fun H1 p1 h1_ => ?_⟩)
      dsimp only [gName, List.set_cons_zero, List.set_cons_succ]
      have o2 := o1.trans p1
      obtain ⟨dx2, ho2⟩ := h1_.ob
      have hx2 := at1.hd
      have at2 := at1.tl
      refine rd_seq (rd_asg ⟨_, rfl, r, dx2, _, rfl, ho2, rf_no _ _ _ (by decide +kernel) (by decide +kernel) (by decide +kernel), r, lw, ws, _, op, 0, f0, _, rfl, h1_, hx2, wl (si_wd (by omega) (by omega)), si_num (by omega) (by omega) (by omega) (by omega), fun H2 p2 h2_ => ?_⟩)
      dsimp only [gName, List.set_cons_zero, List.set_cons_succ]
      have o3 := o2.trans p2
      obtain ⟨dx3, ho3⟩ := h2_.ob
      have hx3 := at2.hd
      refine rd_ret ⟨_, rfl, _, rfl, _, rfl, _, rfl, r, dx3, _, rfl, ho3, rf_no _ _ _ (by decide +kernel) (by decide +kernel) (by decide +kernel), _, rfl, r, lw, ws, _, op, f0, l0, _, rfl, h2_, hx3, wl (si_wd (by omega) (by omega)), si_num (by omega) (by omega) (by omega) (by omega), fun H9 p9 h9 => ?_⟩
      intro x dx nx nd _
      exact ⟨x, _, dx, k, b0, f0, l0, rfl, mk_leaf (l := .snc k b0 f0 l0) VQ ok (o3.trans p9) h9 nx nd q⟩
    | prt k k2 f0 l0 =>
      refine rd_seq (rd_if ⟨_, rfl, rfl, _, rfl, ?_⟩)
      rw [show decide (V.str (wHead (.prt k k2 f0 l0)) = V.str (Str.ofString "number")) = false from (show decide (V.str (Str.ofString "part") = V.str (Str.ofString "number")) = false from by decide +kernel)]
      refine iteF (rd_next ?_)
      dsimp only
      refine rd_seq (rd_if ⟨_, rfl, rfl, _, rfl, ?_⟩)
      rw [show decide (V.str (wHead (.prt k k2 f0 l0)) = V.str (Str.ofString "value")) = false from (show decide (V.str (Str.ofString "part") = V.str (Str.ofString "value")) = false from by decide +kernel)]
      refine iteF (rd_next ?_)
      dsimp only
      refine rd_seq (rd_if ⟨_, rfl, rfl, _, rfl, ?_⟩)
      rw [show decide (V.str (wHead (.prt k k2 f0 l0)) = V.str (Str.ofString "since")) = false from (show decide (V.str (Str.ofString "part") = V.str (Str.ofString "since")) = false from by decide +kernel)]
      refine iteF (rd_next ?_)
      dsimp only
      refine rd_seq (rd_if ⟨_, rfl, rfl, _, rfl, ?_⟩)
      refine iteT ?_
      obtain ⟨hk, hk2, h1, h2, h3⟩ := id ok
      have o0 : Ofr r H H := Ofr.refl
      obtain ⟨dx0, ho0⟩ := h.ob
      have hx0 := hat.hd
      have at0 := hat.tl
      refine rd_seq (rd_asg ⟨_, rfl, r, dx0, _, rfl, ho0, rf_no _ _ _ (by decide +kernel) (by decide +kernel) (by decide +kernel), r, lw, ws, _, op, k, rfl, h, hx0, nl hk, hk, fun H0 p0 h0_ => ?_⟩)
      dsimp only [gName, List.set_cons_zero, List.set_cons_succ]
      have o1 := o0.trans p0
      obtain ⟨dx1, ho1⟩ := h0_.ob
      have hx1 := at0.hd
      have at1 := at0.tl
      refine rd_seq (rd_asg ⟨_, rfl, r, dx1, _, rfl, ho1, rf_no _ _ _ (by decide +kernel) (by decide +kernel) (by decide +kernel), r, lw, ws, _, op, k2, rfl, h0_, hx1, nl hk2, hk2, fun H1 p1 h1_ => ?_⟩)
      dsimp only [gName, List.set_cons_zero, List.set_cons_succ]
      have o2 := o1.trans p1
      obtain ⟨dx2, ho2⟩ := h1_.ob
      have hx2 := at1.hd
      have at2 := at1.tl
      refine rd_seq (rd_asg ⟨_, rfl, r, dx2, _, rfl, ho2, rf_no _ _ _ (by decide +kernel) (by decide +kernel) (by decide +kernel), r, lw, ws, _, op, 0, f0, _, rfl, h1_, hx2, wl (si_wd (by omega) (by omega)), si_num (by omega) (by omega) (by omega) (by omega), fun H2 p2 h2_ => ?_⟩)
      dsimp only [gName, List.set_cons_zero, List.set_cons_succ]
      have o3 := o2.trans p2
      obtain ⟨dx3, ho3⟩ := h2_.ob
      have hx3 := at2.hd
      refine rd_ret ⟨_, rfl, _, rfl, _, rfl, _, rfl, r, dx3, _, rfl, ho3, rf_no _ _ _ (by decide +kernel) (by decide +kernel) (by decide +kernel), _, rfl, r, lw, ws, _, op, f0, l0, _, rfl, h2_, hx3, wl (si_wd (by omega) (by omega)), si_num (by omega) (by omega) (by omega) (by omega), fun H9 p9 h9 => ?_⟩
      intro x dx nx nd _
      exact ⟨x, _, dx, k, k2, f0, l0, rfl, mk_leaf (l := .prt k k2 f0 l0) VQ ok (o3.trans p9) h9 nx nd q⟩
    | chg r0 k f0 l0 =>
      refine rd_seq (rd_if ⟨_, rfl, rfl, _, rfl, ?_⟩)
      rw [show decide (V.str (wHead (.chg r0 k f0 l0)) = V.str (Str.ofString "number")) = false from (show decide (V.str (Str.ofString "change") = V.str (Str.ofString "number")) = false from by decide +kernel)]
      refine iteF (rd_next ?_)
      dsimp only
      refine rd_seq (rd_if ⟨_, rfl, rfl, _, rfl, ?_⟩)
      rw [show decide (V.str (wHead (.chg r0 k f0 l0)) = V.str (Str.ofString "value")) = false from (show decide (V.str (Str.ofString "change") = V.str (Str.ofString "value")) = false from by decide +kernel)]
      refine iteF (rd_next ?_)
      dsimp only
      refine rd_seq (rd_if ⟨_, rfl, rfl, _, rfl, ?_⟩)
      rw [show decide (V.str (wHead (.chg r0 k f0 l0)) = V.str (Str.ofString "since")) = false from (show decide (V.str (Str.ofString "change") = V.str (Str.ofString "since")) = false from by decide +kernel)]
      refine iteF (rd_next ?_)
      dsimp only
      refine rd_seq (rd_if ⟨_, rfl, rfl, _, rfl, ?_⟩)
      rw [show decide (V.str (wHead (.chg r0 k f0 l0)) = V.str (Str.ofString "part")) = false from (show decide (V.str (Str.ofString "change") = V.str (Str.ofString "part")) = false from by decide +kernel)]
      refine iteF (rd_next ?_)
      dsimp only
      obtain ⟨⟨r1, r2⟩, hk, h1, h2, h3⟩ := id ok
      have o0 : Ofr r H H := Ofr.refl
      obtain ⟨dx0, ho0⟩ := h.ob
      have hx0 := hat.hd
      have at0 := hat.tl
      refine rd_seq (rd_asg ⟨_, rfl, r, dx0, _, rfl, ho0, rf_no _ _ _ (by decide +kernel) (by decide +kernel) (by decide +kernel), r, lw, ws, _, op, 1, 400, r0, _, rfl, h, hx0, wl (si_wd (by omega) (by omega)), si_num (by omega) (by omega) (by omega) (by omega), fun H0 p0 h0_ => ?_⟩)
      dsimp only [gName, List.set_cons_zero, List.set_cons_succ]
      have o1 := o0.trans p0
      obtain ⟨dx1, ho1⟩ := h0_.ob
      have hx1 := at0.hd
      have at1 := at0.tl
      refine rd_seq (rd_asg ⟨_, rfl, r, dx1, _, rfl, ho1, rf_no _ _ _ (by decide +kernel) (by decide +kernel) (by decide +kernel), r, lw, ws, _, op, k, rfl, h0_, hx1, nl hk, hk, fun H1 p1 h1_ => ?_⟩)
      dsimp only [gName, List.set_cons_zero, List.set_cons_succ]
      have o2 := o1.trans p1
      obtain ⟨dx2, ho2⟩ := h1_.ob
      have hx2 := at1.hd
      have at2 := at1.tl
      refine rd_seq (rd_asg ⟨_, rfl, r, dx2, _, rfl, ho2, rf_no _ _ _ (by decide +kernel) (by decide +kernel) (by decide +kernel), r, lw, ws, _, op, 0, f0, _, rfl, h1_, hx2, wl (si_wd (by omega) (by omega)), si_num (by omega) (by omega) (by omega) (by omega), fun H2 p2 h2_ => ?_⟩)
      dsimp only [gName, List.set_cons_zero, List.set_cons_succ]
      have o3 := o2.trans p2
      obtain ⟨dx3, ho3⟩ := h2_.ob
      have hx3 := at2.hd
      refine rd_ret ⟨_, rfl, _, rfl, _, rfl, _, rfl, r, dx3, _, rfl, ho3, rf_no _ _ _ (by decide +kernel) (by decide +kernel) (by decide +kernel), _, rfl, r, lw, ws, _, op, f0, l0, _, rfl, h2_, hx3, wl (si_wd (by omega) (by omega)), si_num (by omega) (by omega) (by omega) (by omega), fun H9 p9 h9 => ?_⟩
      intro x dx nx nd _
      exact ⟨x, _, dx, r0, k, f0, l0, rfl, mk_leaf (l := .chg r0 k f0 l0) VQ ok (o3.trans p9) h9 nx nd q⟩
end
end Mine
namespace Mine
open PySem L2
theorem mk_br {K : PySem.W.Frag} {c : Cs} {R C : Addr} {H H1 : Hp} {r lw x dx : Addr} {ws : List Str} {pl : Nat} {op : Int} {n : Nat} {w : Str} {as : List Addr} {xs : List Nd} {Q : VK} (VQ : ∀ C ∈ c.all, QuC K C) (hC : C = brC c w) (hp : Paired (fun a q => QnAt c n q (wo H H1) a) as xs) (ok : NdOk (n + 1) (.brk w xs)) (h2 : n ≤ 2) (o1 : Ofr r H H1) (h1 : RdAt R H1 r lw ws pl op) (nx : H1 x = none) (nd : H1 dx = none)
    (q : ∀ x H', H x = none → Ofr r H H' → RdAt R H' r lw ws pl op → QnAt c (n + 1) (.brk w xs) (wo H H') x → Q (.ref x) H') : KidI K c x C dx n w as xs (upd (upd H1 dx (.own x)) x (.ins C dx [])) (fun v H2 => v = .non ∧ Q (.ref x) H2) := by
  have gu : Grow H1 (upd (upd H1 dx (.own x)) x (.ins C dx [])) := fun b u e => by rw [upd_ne (ne_of_none e nx), upd_ne (ne_of_none e nd)]; exact e
  refine ⟨by rw [hC]; exact VQ _ (brC_in c w), upd_same, Paired.mono (fun a q0 h => QnAt.keep (Kq.grow (Grow.trans wo_in gu)) h) hp, ok, h2, fun ln lj H' nl nj o el ej ex => ⟨rfl, ?_⟩⟩
  obtain ⟨g, h'⟩ := h1.made nx nd o
  have f0 : ∀ b, upd (upd H1 dx (.own x)) x (.ins C dx []) b = none → H b = none := fun b hb => h1.free o1 (free_of gu hb)
  rw [hC] at ex
  exact q x H' (h1.free o1 nx) (fun b u e n => g _ _ (o1 _ _ e n)) h' (BrX.mk dx ln lj as (by rw [wo_new (h1.free o1 nx)]; exact ex) (by rw [wo_new (f0 _ nl)]; exact el) (by rw [wo_new (f0 _ nj)]; exact ej) (Paired.mono (fun a q0 h => QnAt.keep (Kq.grow (wo_grow fun b u _ e => g _ _ e)) h) hp))
def kidW (n : Nat) (q : Nd) : List Str := opS :: (wordsN n q ++ [clS])
inductive QhI (c : Cs) (R : Addr) (n : Nat) (nd : Nd) (r : Addr) (H : Hp) (Q : VK) : Prop
  | mk (lw : Addr) (ws : List Str) (pl : Nat) (op : Int) (ok : NdOk n nd) (h : RdAt R H r lw ws pl op) (hat : At ws pl (wordsN n nd)) (hop : op + n ≤ 3) (hn : n ≤ 3) (q : ∀ x H', H x = none → Ofr r H H' → RdAt R H' r lw ws (pl + (wordsN n nd).length) op → QnAt c n nd (wo H H') x → Q (.ref x) H') : QhI c R n nd r H Q
def spQh (c : Cs) (R : Addr) (n : Nat) : Sp := fun vs H Q _ => ∃ (r : Addr) (nd : Nd), vs = [.ref r] ∧ QhI c R n nd r H Q
inductive QsI (c : Cs) (R : Addr) (n : Nat) (xs : List Nd) (r : Addr) (H : Hp) (Q : VK) : Prop
  | mk (m : Nat) (lw : Addr) (ws : List Str) (pl : Nat) (op : Int) (hm : n = m + 1) (ok : ∀ x ∈ xs, NdOk m x) (h4 : xs.length ≤ 4) (h : RdAt R H r lw ws pl op) (hat : At ws pl (xs.flatMap (kidW m))) (hop : op + n ≤ 3) (hn : n ≤ 3) (q : ∀ li as H', H li = none → Ofr r H H' → RdAt R H' r lw ws (pl + (xs.flatMap (kidW m)).length) op → H' li = some (.lst (as.map V.ref)) → Paired (fun a q => QnAt c m q (wo H H') a) as xs → Q (.ref li) H') : QsI c R n xs r H Q
def spQsh (c : Cs) (R : Addr) (n : Nat) : Sp := fun vs H Q _ => ∃ (r : Addr) (xs : List Nd), vs = [.ref r, .int (xs.length : Int)] ∧ QsI c R n xs r H Q
theorem head_not {l : Lf} (h : ¬ IsGth l) : wHead l ∉ gthW ∧ wHead l ∉ rckW ∧ wHead l ∉ chcW ∧ wHead l ∈ sglW := by
  cases l with
  | gth => exact absurd True.intro h
  | num => exact ⟨(by show (Str.ofString "number") ∉ gthW; decide +kernel), (by show (Str.ofString "number") ∉ rckW; decide +kernel), (by show (Str.ofString "number") ∉ chcW; decide +kernel), (by show (Str.ofString "number") ∈ sglW; decide +kernel)⟩
  | val => exact ⟨(by show (Str.ofString "value") ∉ gthW; decide +kernel), (by show (Str.ofString "value") ∉ rckW; decide +kernel), (by show (Str.ofString "value") ∉ chcW; decide +kernel), (by show (Str.ofString "value") ∈ sglW; decide +kernel)⟩
  | snc => exact ⟨(by show (Str.ofString "since") ∉ gthW; decide +kernel), (by show (Str.ofString "since") ∉ rckW; decide +kernel), (by show (Str.ofString "since") ∉ chcW; decide +kernel), (by show (Str.ofString "since") ∈ sglW; decide +kernel)⟩
  | prt => exact ⟨(by show (Str.ofString "part") ∉ gthW; decide +kernel), (by show (Str.ofString "part") ∉ rckW; decide +kernel), (by show (Str.ofString "part") ∉ chcW; decide +kernel), (by show (Str.ofString "part") ∈ sglW; decide +kernel)⟩
  | chg => exact ⟨(by show (Str.ofString "change") ∉ gthW; decide +kernel), (by show (Str.ofString "change") ∉ rckW; decide +kernel), (by show (Str.ofString "change") ∉ chcW; decide +kernel), (by show (Str.ofString "change") ∈ sglW; decide +kernel)⟩
theorem br_not : (∀ w ∈ rckW, w ∉ gthW) ∧ (∀ w ∈ chcW, w ∉ gthW ∧ w ∉ rckW) := by decide +kernel
section
variable {P : Program} {w : World} {K : PySem.W.Frag} {mg : Str → Option Value} {base : Heap}
theorem scQh : FnScope ["reader", "word", "keys", "first", "inner"] ["reader"] (defScope sQh) := ⟨rfl, rfl, rfl, by decide +kernel, rfl, by decide +kernel, by decide +kernel⟩
theorem ok_qh {c : Cs} {n : Nat} {f f1 f2 f3 f4 f5 f6 f7 f8 R : Addr} {fd : FuncData} (F : Fun K "question_here" "question_here" sQh f fd) (N : Free mg) (ZT : ConT K mg) (VQ : ∀ C ∈ c.all, QuC K C) {fd1 : FuncData} (MB : MC P w K mg base R "beginning_here" 2 ["self"] [] [] (spBeg R) f1 fd1) {fd2 : FuncData} (MD : MC P w K mg base R "day_here" 4 ["self", "earliest"] [] [] (spDayH R) f2 fd2) {fd3 : FuncData} (ME : MC P w K mg base R "keys_here" 4 ["self"] [] [] (spKeysH R) f3 fd3) {fd4 : FuncData} (CS : Cal P w K mg base "questions_here" (2 * n + 5) ["reader", "count"] (spQsh c R n) f4 fd4) {fd5 : FuncData} (CG : Cal P w K mg base "single_here" 5 ["reader", "word"] (spSingle c R) f5 fd5) {fd6 : FuncData} (KGth : MkC P w K mg base "Gathering" 3 ["self", "word", "keys", "first", "last"] (spIGth K) c.gth f6 fd6) {fd7 : FuncData} (KRck : MkC P w K mg base "Reckoning" 4 ["self", "word", "one", "other"] (spInitK K c) c.rck f7 fd7) {fd8 : FuncData} (KChc : MkC P w K mg base "Choice" 4 ["self", "word", "one", "other", "chosen", "otherwise"] (spInitC K c) c.chc f8 fd8) : FnOk P w K mg base CX0 (2 * n + 6) f fd ["reader"] (spQh c R n) := by
  obtain ⟨a2, c2, q2⟩ := ZT.gth
  obtain ⟨a3, c3, q3⟩ := ZT.rck
  obtain ⟨a4, c4, q4⟩ := ZT.chc
  refine F.ok (k := 2 * n + 5) scQh (fun vs H Q E h => ?_) (fun cdv A outer s H vs Q E hr h => ?_)
  · obtain ⟨r, nd, rfl, _⟩ := h
    rfl
  · obtain ⟨r, nd, rfl, lw, ws, pl, op, ok, h, hat, hop, hn, q⟩ := h
    have hu := hu_of hr
    refine ⟨_, (pss_cons (ps_set (i := 1) scQh.nd rfl (Or.inl rfl) (pe_meth0 (pv 0) MB.cl MB.mt MB.ok (hr.mono (by omega)) MB.bd MB.dv pass0))
      (pss_cons (ps_if (pt_cmpR op_in_seq (pv 1) (pe_glob (v := .ref a2) (by rfl) c2 rfl) (by with_unfolding_all rfl)) (pss_cons (ps_set (i := 2) scQh.nd rfl (Or.inl rfl) (pe_meth0 (pv 0) ME.cl ME.mt ME.ok (hr.mono (by omega)) ME.bd ME.dv pass0))
      (pss_cons (ps_set (i := 3) scQh.nd rfl (Or.inl rfl) (pe_meth (pv 0) MD.cl MD.mt MD.ok (hr.mono (by omega)) MD.bd MD.dv pass0 (pa_kons pe_int pa_nil)))
      (pss_one (ps_ret (pe_make KGth.km KGth.ok (hr.mono (by omega)) rfl KGth.nm KGth.bd .nil pass0 (pa_kons (pv 1) (pa_kons (pv 2) (pa_kons (pv 3) (pa_kons (pe_meth (pv 0) MD.cl MD.mt MD.ok (hr.mono (by omega)) MD.bd MD.dv pass0 (pa_kons (pv 3) pa_nil)) pa_nil))))))))) pss_nil)
      (pss_cons (ps_if (pt_cmpR op_in_seq (pv 1) (pe_glob (v := .ref a3) (by rfl) c3 rfl) (by with_unfolding_all rfl)) (pss_cons (ps_set (i := 4) scQh.nd rfl (Or.inl rfl) (pe_call CS.ok (hr.mono (by omega)) rfl CS.nm CS.kp CS.bd .nil pass0 (pa_kons (pv 0) (pa_kons pe_int pa_nil))))
      (pss_one (ps_ret (pe_make KRck.km KRck.ok (hr.mono (by omega)) rfl KRck.nm KRck.bd .nil pass0 (pa_kons (pv 1) (pa_kons (pe_ix ix_list (pv 4) pe_int (fun _ _ => rfl)) (pa_kons (pe_ix ix_list (pv 4) pe_int (fun _ _ => rfl)) pa_nil))))))) pss_nil)
      (pss_cons (ps_if (pt_cmpR op_in_seq (pv 1) (pe_glob (v := .ref a4) (by rfl) c4 rfl) (by with_unfolding_all rfl)) (pss_cons (ps_set (i := 4) scQh.nd rfl (Or.inl rfl) (pe_call CS.ok (hr.mono (by omega)) rfl CS.nm CS.kp CS.bd .nil pass0 (pa_kons (pv 0) (pa_kons pe_int pa_nil))))
      (pss_one (ps_ret (pe_make KChc.km KChc.ok (hr.mono (by omega)) rfl KChc.nm KChc.bd .nil pass0 (pa_kons (pv 1) (pa_kons (pe_ix ix_list (pv 4) pe_int (fun _ _ => rfl)) (pa_kons (pe_ix ix_list (pv 4) pe_int (fun _ _ => rfl)) (pa_kons (pe_ix ix_list (pv 4) pe_int (fun _ _ => rfl)) (pa_kons (pe_ix ix_list (pv 4) pe_int (fun _ _ => rfl)) pa_nil))))))))) pss_nil)
      (pss_one (ps_ret (pe_call CG.ok (hr.mono (by omega)) rfl CG.nm CG.kp CG.bd .nil pass0 (pa_kons (pv 0) (pa_kons (pv 1) pa_nil))))))))), ?_⟩
    obtain ⟨dx0, ho0⟩ := h.ob
    have hw : ∃ w0 r0, wordsN n nd = w0 :: r0 ∧ (w0 ∈ sglW ∨ w0 ∈ gthW ∨ w0 ∈ rckW ∨ w0 ∈ chcW) := by
      cases nd with
      | leaf l =>
        by_cases z : IsGth l
        · cases l with
          | gth w ks f0 l0 => exact ⟨w, _, wN_leaf _ _, .inr (.inl (ok_leaf ok).1)⟩
          | _ => exact absurd z id
        · exact ⟨wHead l, wTail l, by rw [wN_leaf, w_ht], .inl (head_not z).2.2.2⟩
      | brk w xs =>
        cases n with
        | zero => exact (show False from ok).elim
        | succ m =>
          obtain ⟨h1, _⟩ : _ ∧ _ := ok
          exact ⟨w, _, rfl, h1.elim (fun z => .inr (.inr (.inl z.1))) fun z => .inr (.inr (.inr z.1))⟩
    obtain ⟨w0, r0, ew, hw⟩ := hw
    have hx0 := At.hd (by rw [ew] at hat; exact hat)
    have at0 := At.tl (by rw [ew] at hat; exact hat)
    refine rd_seq (rd_asg ⟨_, rfl, r, dx0, _, rfl, ho0, rf_no _ _ _ (by decide +kernel) (by decide +kernel) (by decide +kernel), r, lw, ws, pl, op, w0, rfl, h, hx0, hw, fun H1 o1 h1 => ?_⟩)
    dsimp only [gName, List.set_cons_zero, List.set_cons_succ]
    cases nd with
    | leaf l =>
      have okl := ok_leaf ok
      rw [wN_leaf] at ew q
      by_cases z : IsGth l
      · cases l with
        | gth w ks f0 l0 =>
          obtain ⟨rfl, rfl⟩ := List.cons.inj (show w :: [jc ks, si f0, si l0] = w0 :: r0 from ew)
          obtain ⟨hg, ⟨k1, k8, knd, hk⟩, d1, d2, d3⟩ := id okl
          refine rd_seq (rd_if ⟨_, rfl, a2, _, rfl, .inr (q2 _), rfl, flat_strs _, ?_⟩)
          rw [if_neg Bool.false_ne_true, inV_str]
          refine ⟨_, rfl, ?_⟩
          rw [decide_eq_true hg]
          refine iteT ?_
          obtain ⟨dx1, ho1⟩ := h1.ob
          refine rd_seq (rd_asg ⟨_, rfl, r, dx1, _, rfl, ho1, rf_no _ _ _ (by decide +kernel) (by decide +kernel) (by decide +kernel), r, lw, ws, _, op, ks, rfl, h1, at0.hd, Nat.le_of_lt (wl (jc_wd k1 k8 hk)), k1, k8, knd, fun k m => ⟨hk k m, nl (hk k m)⟩, fun lk H2 nlk o2 elk h2 => ?_⟩)
          dsimp only [gName, List.set_cons_zero, List.set_cons_succ]
          obtain ⟨dx2, ho2⟩ := h2.ob
          have at1 := at0.tl
          refine rd_seq (rd_asg ⟨_, rfl, r, dx2, _, rfl, ho2, rf_no _ _ _ (by decide +kernel) (by decide +kernel) (by decide +kernel), r, lw, ws, _, op, 0, f0, _, rfl, h2, at1.hd, wl (si_wd (by omega) (by omega)), si_num (by omega) (by omega) (by omega) (by omega), fun H3 o3 h3 => ?_⟩)
          dsimp only [gName, List.set_cons_zero, List.set_cons_succ]
          obtain ⟨dx3, ho3⟩ := h3.ob
          have at2 := at1.tl
          have elk3 := o3 _ _ elk (ne_of elk ho2 (fun z => nomatch z))
          refine rd_ret ⟨_, rfl, _, rfl, _, rfl, _, rfl, r, dx3, _, rfl, ho3, rf_no _ _ _ (by decide +kernel) (by decide +kernel) (by decide +kernel), _, rfl, r, lw, ws, _, op, f0, l0, _, rfl, h3, at2.hd, wl (si_wd (by omega) (by omega)), si_num (by omega) (by omega) (by omega) (by omega), fun H4 o4 h4 => ?_⟩
          intro x dx nx nd _
          have elk4 := o4 _ _ elk3 (ne_of elk3 ho3 (fun z => nomatch z))
          refine ⟨x, _, dx, w, lk, f0, l0, ks, rfl, ?_, mk_leaf (l := .gth w ks f0 l0) VQ okl (o1.trans (o2.trans (o3.trans o4))) h4 nx nd fun x H' nx o h l => q x H' nx o h (qn_leaf.mpr l)⟩
          rw [upd_ne (ne_of_none elk4 nx), upd_ne (ne_of_none elk4 nd)]; exact elk4
        | _ => exact absurd z id
      · obtain ⟨z1, z2, z3, _⟩ := head_not z
        rw [w_ht] at ew
        obtain ⟨rfl, rfl⟩ := List.cons.inj ew
        refine rd_seq (rd_if ⟨_, rfl, a2, _, rfl, .inr (q2 _), rfl, flat_strs _, ?_⟩)
        rw [if_neg Bool.false_ne_true, inV_str]
        refine ⟨_, rfl, ?_⟩
        rw [decide_eq_false z1]
        refine iteF (rd_next ?_)
        dsimp only
        refine rd_seq (rd_if ⟨_, rfl, a3, _, rfl, .inr (q3 _), rfl, flat_strs _, ?_⟩)
        rw [if_neg Bool.false_ne_true, inV_str]
        refine ⟨_, rfl, ?_⟩
        rw [decide_eq_false z2]
        refine iteF (rd_next ?_)
        dsimp only
        refine rd_seq (rd_if ⟨_, rfl, a4, _, rfl, .inr (q4 _), rfl, flat_strs _, ?_⟩)
        rw [if_neg Bool.false_ne_true, inV_str]
        refine ⟨_, rfl, ?_⟩
        rw [decide_eq_false z3]
        refine iteF (rd_next ?_)
        dsimp only
        refine rd_ret ⟨_, rfl, _, rfl, r, l, rfl, lw, ws, _, op, okl, z, h1, at0, fun x H' nx o h lx => ?_⟩
        rw [show pl + 1 + (wTail l).length = pl + (lfWords l).length from by rw [w_ht l, List.length_cons]; omega] at h
        exact q x H' (h1.free o1 nx) (o1.trans o) h (qn_leaf.mpr (lx.keep (Kq.grow (wo_sub (H0 := H) fun b hb => h1.free o1 hb))))
    | brk w xs =>
      cases n with
      | zero => exact (show False from ok).elim
      | succ m =>
        obtain ⟨rfl, rfl⟩ := List.cons.inj (show w :: xs.flatMap (kidW m) = w0 :: r0 from ew)
        obtain ⟨hb, hxs⟩ : _ ∧ _ := id ok
        have h4 := brk_len hb
        have hq : ∀ x H', H x = none → Ofr r H H' → RdAt R H' r lw ws (pl + 1 + (xs.flatMap (kidW m)).length) op → QnAt c (m + 1) (.brk w xs) (wo H H') x → Q (.ref x) H' := fun x H' nx o h => by
          rw [show pl + 1 + (xs.flatMap (kidW m)).length = pl + (wordsN (m + 1) (.brk w xs)).length from by show _ = pl + (w :: xs.flatMap (kidW m)).length; rw [List.length_cons]; omega] at h
          exact q x H' nx o h
        rcases hb with ⟨hb, hl⟩ | ⟨hb, hl⟩
        · have zg := br_not.1 w hb
          refine rd_seq (rd_if ⟨_, rfl, a2, _, rfl, .inr (q2 _), rfl, flat_strs _, ?_⟩)
          rw [if_neg Bool.false_ne_true, inV_str]
          refine ⟨_, rfl, ?_⟩
          rw [decide_eq_false zg]
          refine iteF (rd_next ?_)
          dsimp only
          refine rd_seq (rd_if ⟨_, rfl, a3, _, rfl, .inr (q3 _), rfl, flat_strs _, ?_⟩)
          rw [if_neg Bool.false_ne_true, inV_str]
          refine ⟨_, rfl, ?_⟩
          rw [decide_eq_true hb]
          refine iteT ?_
          refine rd_seq (rd_asg ⟨_, rfl, r, xs, (by rw [hl]; rfl), m, lw, ws, _, op, rfl, hxs, h4.2, h1, at0, hop, hn, fun li as H2 nli o2 h2 eli hp => ?_⟩)
          dsimp only [gName, List.set_cons_zero, List.set_cons_succ]
          have hal := paired_len hp
          rw [hl] at hal
          match as, hal, hp, eli with
          | [b1, b2], _, hp, eli =>
            refine rd_ret ⟨_, rfl, _, rfl, li, _, 0, _, rfl, rfl, SqL.of eli, rfl, _, rfl, li, _, 1, _, rfl, rfl, SqL.of eli, rfl, ?_⟩
            intro x dx nx nd _
            refine ⟨x, _, dx, b1, b2, w, m, xs, rfl, mk_br VQ ?_ (Paired.mono (fun a q0 h => QnAt.keep (Kq.grow (wo_sub (H0 := H) fun b hb => h1.free o1 hb)) h) hp) ok (by omega) (o1.trans o2) h2 nx nd hq⟩
            unfold brC
            rw [if_pos hb]
        · obtain ⟨zg, zr⟩ := br_not.2 w hb
          refine rd_seq (rd_if ⟨_, rfl, a2, _, rfl, .inr (q2 _), rfl, flat_strs _, ?_⟩)
          rw [if_neg Bool.false_ne_true, inV_str]
          refine ⟨_, rfl, ?_⟩
          rw [decide_eq_false zg]
          refine iteF (rd_next ?_)
          dsimp only
          refine rd_seq (rd_if ⟨_, rfl, a3, _, rfl, .inr (q3 _), rfl, flat_strs _, ?_⟩)
          rw [if_neg Bool.false_ne_true, inV_str]
          refine ⟨_, rfl, ?_⟩
          rw [decide_eq_false zr]
          refine iteF (rd_next ?_)
          dsimp only
          refine rd_seq (rd_if ⟨_, rfl, a4, _, rfl, .inr (q4 _), rfl, flat_strs _, ?_⟩)
          rw [if_neg Bool.false_ne_true, inV_str]
          refine ⟨_, rfl, ?_⟩
          rw [decide_eq_true hb]
          refine iteT ?_
          refine rd_seq (rd_asg ⟨_, rfl, r, xs, (by rw [hl]; rfl), m, lw, ws, _, op, rfl, hxs, h4.2, h1, at0, hop, hn, fun li as H2 nli o2 h2 eli hp => ?_⟩)
          dsimp only [gName, List.set_cons_zero, List.set_cons_succ]
          have hal := paired_len hp
          rw [hl] at hal
          match as, hal, hp, eli with
          | [b1, b2, b3, b4], _, hp, eli =>
            refine rd_ret ⟨_, rfl, _, rfl, li, _, 0, _, rfl, rfl, SqL.of eli, rfl, _, rfl, li, _, 1, _, rfl, rfl, SqL.of eli, rfl, _, rfl, li, _, 2, _, rfl, rfl, SqL.of eli, rfl, _, rfl, li, _, 3, _, rfl, rfl, SqL.of eli, rfl, ?_⟩
            intro x dx nx nd _
            refine ⟨x, _, dx, b1, b2, b3, b4, w, m, xs, rfl, mk_br VQ ?_ (Paired.mono (fun a q0 h => QnAt.keep (Kq.grow (wo_sub (H0 := H) fun b hb => h1.free o1 hb)) h) hp) ok (by omega) (o1.trans o2) h2 nx nd hq⟩
            unfold brC
            rw [if_neg (br_not.2 w hb).2]
end
inductive QsW' (c : Cs) (R r lw li : Addr) (ws : List Str) (pl : Nat) (op : Int) (n : Nat) (xs : List Nd) (H H1 : Hp) (i : Nat) (σ : St) (H2 : Hp) : Prop
  | mk (as : List Addr) (h0 : i ≤ xs.length) (h1 : σ = [some (.ref r), some (.int (xs.length : Int)), some (.ref li)]) (h2 : Ofr r H H2) (h3 : ∀ b o, H1 b = some o → b ≠ r → b ≠ li → H2 b = some o) (h4 : RdAt R H2 r lw ws (pl + ((xs.take i).flatMap (kidW n)).length) op) (h5 : H2 li = some (.lst (as.map V.ref))) (h6 : Paired (fun a q => QnAt c n q (wo H1 H2) a) as (xs.take i)) : QsW' c R r lw li ws pl op n xs H H1 i σ H2
inductive QsW (c : Cs) (R r lw li : Addr) (ws : List Str) (pl : Nat) (op : Int) (n : Nat) (xs : List Nd) (H H1 : Hp) (m : Nat) (σ : St) (H2 : Hp) : Prop
  | mk (i : Nat) (as : List Addr) (hm : m = xs.length - i) (h0 : i ≤ xs.length) (h1 : σ = [some (.ref r), some (.int (xs.length : Int)), some (.ref li)]) (h2 : Ofr r H H2) (h3 : ∀ b o, H1 b = some o → b ≠ r → b ≠ li → H2 b = some o) (h4 : RdAt R H2 r lw ws (pl + ((xs.take i).flatMap (kidW n)).length) op) (h5 : H2 li = some (.lst (as.map V.ref))) (h6 : Paired (fun a q => QnAt c n q (wo H1 H2) a) as (xs.take i)) : QsW c R r lw li ws pl op n xs H H1 m σ H2
section
variable {P : Program} {w : World} {K : PySem.W.Frag} {mg : Str → Option Value} {base : Heap}
theorem scQsh : FnScope ["reader", "count", "inner"] ["reader", "count"] (defScope sQsh) := ⟨rfl, rfl, rfl, by decide +kernel, rfl, by decide +kernel, by decide +kernel⟩
theorem ok_qsh {c : Cs} {n : Nat} {f f1 f2 f3 R : Addr} {fd : FuncData} (F : Fun K "questions_here" "questions_here" sQsh f fd) (N : Free mg) {fd1 : FuncData} (MO : MC P w K mg base R "bracket_opens" 2 ["self"] [] [] (spOpens R) f1 fd1) {fd2 : FuncData} (MX : MC P w K mg base R "bracket_closes" 2 ["self"] [] [] (spCloses R) f2 fd2) {fd3 : FuncData} (CQ : Cal P w K mg base "question_here" (2 * n + 6) ["reader"] (spQh c R n) f3 fd3) : FnOk P w K mg base CX0 (2 * n + 7) f fd ["reader", "count"] (spQsh c R (n + 1)) := by
  refine F.ok (k := 2 * n + 6) scQsh (fun vs H Q E h => ?_) (fun cdv A outer s H vs Q E hr h => ?_)
  · obtain ⟨r, xs, rfl, _⟩ := h
    rfl
  · obtain ⟨r, xs, rfl, m, lw, ws, pl, op, hm, ok, h4, h, hat, hop, hn, q⟩ := h
    have hu := hu_of hr
    refine ⟨_, (pss_cons (ps_set (i := 2) scQsh.nd rfl (Or.inl rfl) (pe_lst pa_nil))
      (pss_cons (ps_while PassesOwn.never (pt_cmpR op_lt (pe_callB call_len_seq (by rfl) N.len PySem.boot_len (pa_kons (pv 2) pa_nil)) (pv 1) (nomark _)) (pss_cons (ps_expr (pe_meth0 (pv 0) MO.cl MO.mt MO.ok (hr.mono (by omega)) MO.bd MO.dv pass0))
      (pss_cons (ps_expr (pe_bm PySem.F.plainAttrs_list PySem.F.slot_list_append PySem.F.type_list_append mt_append (pv 2) (pa_kons (pe_call CQ.ok (hr.mono (by omega)) rfl CQ.nm CQ.kp CQ.bd .nil pass0 (pa_kons (pv 0) pa_nil)) pa_nil)))
      (pss_one (ps_expr (pe_meth0 (pv 0) MX.cl MX.mt MX.ok (hr.mono (by omega)) MX.bd MX.dv pass0))))))
      (pss_one (ps_ret (pv 2))))), ?_⟩
    have okm : n = m := Nat.succ.inj hm
    subst okm
    refine rd_seq (rd_asg ⟨by show 0 ≤ sizeLine; decide, fun li nli => ?_⟩)
    dsimp only [gName, List.set_cons_zero, List.set_cons_succ]
    obtain ⟨g1, e1⟩ := laid (o := .lst []) nli
    have h1 := h.keep g1
    generalize upd H li _ = H1 at g1 e1 h1 ⊢
    refine rd_seq (rd_while (QsW c R r lw li ws pl op n xs H H1) (m := xs.length) ⟨0, [], rfl, Nat.zero_le _, rfl, fun b o e nb => g1 _ _ e, fun b o e _ _ => e, h1, e1, .nil⟩ fun mm σ H2 hh => ?_)
    obtain ⟨i, as, rfl, hi, rfl, o2, k2, h2, e2, hp⟩ := hh
    have hal := paired_len hp
    rw [List.length_take, Nat.min_eq_left hi] at hal
    refine ⟨_, rfl, li, _, rfl, .inl (SqL.of e2), _, rfl, _, _, rfl, rfl, _, rfl, ?_⟩
    rw [List.length_map, hal]
    by_cases hlt : i < xs.length
    · rw [decide_eq_true (by omega)]
      refine iteT ⟨QsW' c R r lw li ws pl op n xs H H1 (i + 1), fun σ' H' hh => ?_, ?_⟩
      · obtain ⟨as', z1, z2, z3, z4, z5, z6, z7⟩ := hh
        exact ⟨xs.length - (i + 1), by omega, i + 1, as', rfl, z1, z2, z3, z4, z5, z6, z7⟩
      have hx : xs[i]? = some xs[i] := List.getElem?_eq_getElem hlt
      have et : xs.take (i + 1) = xs.take i ++ [xs[i]] := by rw [List.take_add_one, hx]; rfl
      have hsp : xs = xs.take i ++ xs[i] :: xs.drop (i + 1) := by
        have := List.take_append_drop i xs
        rw [List.drop_eq_getElem_cons hlt] at this
        exact this.symm
      have at1 : At ws (pl + ((xs.take i).flatMap (kidW n)).length) (opS :: (wordsN n xs[i] ++ ([clS] ++ (xs.drop (i + 1)).flatMap (kidW n)))) := by
        have := hat
        rw [hsp, List.flatMap_append, List.flatMap_cons] at this
        have := (At.app this).2
        rw [show kidW n xs[i] ++ (xs.drop (i + 1)).flatMap (kidW n) = opS :: (wordsN n xs[i] ++ ([clS] ++ (xs.drop (i + 1)).flatMap (kidW n))) from by show opS :: (wordsN n xs[i] ++ [clS]) ++ _ = _; rw [List.cons_append, List.append_assoc]] at this
        exact this
      have okx := ok xs[i] (List.getElem_mem hlt)
      have nlr : li ≠ r := fun z => by obtain ⟨d, e⟩ := h.ob; rw [z, e] at nli; cases nli
      obtain ⟨dx2, ho2⟩ := h2.ob
      refine rd_seq (rd_expr ⟨_, rfl, r, dx2, _, rfl, ho2, rf_no _ _ _ (by decide +kernel) (by decide +kernel) (by decide +kernel), r, lw, ws, _, op, rfl, h2, at1.hd, by omega, fun H3 o3 h3 => ?_⟩)
      have at2 := at1.tl
      have e3 := o3 _ _ e2 nlr
      obtain ⟨at3, at4⟩ := at2.app
      dsimp only
      refine rd_seq (rd_expr ⟨_, rfl, .inl ⟨rfl, _, SqL.of e3⟩, ?_⟩)
      refine rd_cons ⟨_, rfl, r, xs[i], rfl, lw, ws, _, op + 1, okx, h3, at3, by omega, by omega, fun x H4 nx o4 h4 qn => ?_⟩
      have e4 := o4 _ _ e3 nlr
      refine ⟨li, _, _, rfl, rfl, e4, ?_, ?_⟩
      · rw [List.length_map, hal]; exact small1000 (by omega)
      have h5 : RdAt R (upd H4 li (.lst (as.map V.ref ++ [.ref x]))) r lw ws (pl + ((xs.take i).flatMap (kidW n)).length + 1 + (wordsN n xs[i]).length) (op + 1) := by
        obtain ⟨d, e⟩ := h4.ob
        refine ⟨⟨d, by rw [upd_ne (Ne.symm nlr)]; exact e⟩, ?_⟩
        rw [upd_ne (ne_of_none h.wd nli)]; exact h4.wd
      generalize hH5 : upd H4 li _ = H5 at h5
      have e5 : H5 li = some (.lst ((as ++ [x]).map V.ref)) := by rw [← hH5, upd_same, List.map_append]; rfl
      have k5 : ∀ b o, H4 b = some o → b ≠ li → H5 b = some o := fun b o e nb => by rw [← hH5, upd_ne nb]; exact e
      dsimp only
      obtain ⟨dx5, ho5⟩ := h5.ob
      refine rd_expr ⟨_, rfl, r, dx5, _, rfl, ho5, rf_no _ _ _ (by decide +kernel) (by decide +kernel) (by decide +kernel), r, lw, ws, _, op + 1, rfl, h5, at4.hd, fun H6 o6 h6 => ?_⟩
      refine ⟨as ++ [x], by omega, rfl, fun b o e nb => ?_, fun b o e n1 n2 => ?_, ?_, o6 _ _ e5 nlr, ?_⟩
      · exact o6 _ _ (k5 _ _ (o4 _ _ (o3 _ _ (o2 _ _ e nb) nb) nb) (ne_of_none e nli)) nb
      · exact o6 _ _ (k5 _ _ (o4 _ _ (o3 _ _ (k2 _ _ e n1 n2) n1) n1) n2) n1
      · rw [show op + 1 - 1 = op from by omega] at h6
        rw [et, List.flatMap_append, List.length_append, List.flatMap_cons, List.flatMap_nil, List.append_nil]
        rw [show pl + (((xs.take i).flatMap (kidW n)).length + (kidW n xs[i]).length) = pl + ((xs.take i).flatMap (kidW n)).length + 1 + (wordsN n xs[i]).length + 1 from by show _ + (_ + (opS :: (_ ++ [clS])).length) = _; rw [List.length_cons, List.length_append, List.length_singleton]; omega]
        exact h6
      · rw [et]
        have kk : ∀ b o, H1 b = none → H4 b = some o → H6 b = some o := fun b o n e => o6 _ _ (k5 _ _ e (fun z => by rw [z, e1] at n; cases n)) (fun z => by obtain ⟨d, er⟩ := h1.ob; rw [z, er] at n; cases n)
        refine Paired.snoc (Paired.mono (fun a q0 hq0 => QnAt.keep (Kq.grow (wo_grow fun b o n e => ?_)) hq0) hp) (QnAt.keep (Kq.grow (Grow.trans (wo_sub (H0 := H1) fun b hb => ?_) (wo_grow kk))) qn)
        · exact kk _ _ n (o4 _ _ (o3 _ _ e (fun z => by obtain ⟨d, er⟩ := h1.ob; rw [z, er] at n; cases n)) (fun z => by obtain ⟨d, er⟩ := h1.ob; rw [z, er] at n; cases n))
        · cases e : H1 b with
          | none => rfl
          | some o =>
            by_cases zr : b = r
            · obtain ⟨d, er⟩ := h3.ob
              rw [zr, er] at hb; cases hb
            · by_cases zl : b = li
              · rw [zl, e3] at hb; cases hb
              · rw [o3 _ _ (k2 _ _ e zr zl) zr] at hb; cases hb
    · have : i = xs.length := by omega
      subst this
      rw [decide_eq_false (by omega)]
      rw [List.take_length] at h2 hp
      refine iteF (rd_ret ⟨_, rfl, q li as H2 nli o2 h2 e2 (Paired.mono (fun a q0 hq0 => QnAt.keep (Kq.grow (wo_sub (H0 := H) fun b hb => free_of g1 hb)) hq0) hp)⟩)
end
end Mine
namespace Mine
open PySem L2
section
variable {P : Program} {w : World} {K : PySem.W.Frag} {mg : Str → Option Value} {base : Heap}
def spQhE (c : Cs) (R : Addr) : Sp := fun vs H Q E => ∃ n, n ≤ 3 ∧ spQh c R n vs H Q E
theorem qh_all {c : Cs} {f f1 f2 f3 f4 f5 f6 f7 f8 f9 f10 R : Addr} {fd : FuncData} (Fq : Fun K "question_here" "question_here" sQh f fd) (nq : mg "question_here" = some (.ref f)) (bq : Binds K fd ["reader"] []) {fd4 : FuncData} (Fs : Fun K "questions_here" "questions_here" sQsh f4 fd4) (ns : mg "questions_here" = some (.ref f4)) (bs : Binds K fd4 ["reader", "count"] []) (N : Free mg) (ZT : ConT K mg) (VQ : ∀ C ∈ c.all, QuC K C) {fd1 : FuncData} (MB : MC P w K mg base R "beginning_here" 2 ["self"] [] [] (spBeg R) f1 fd1) {fd2 : FuncData} (MD : MC P w K mg base R "day_here" 4 ["self", "earliest"] [] [] (spDayH R) f2 fd2) {fd3 : FuncData} (ME : MC P w K mg base R "keys_here" 4 ["self"] [] [] (spKeysH R) f3 fd3) {fd5 : FuncData} (CG : Cal P w K mg base "single_here" 5 ["reader", "word"] (spSingle c R) f5 fd5) {fd6 : FuncData} (KGth : MkC P w K mg base "Gathering" 3 ["self", "word", "keys", "first", "last"] (spIGth K) c.gth f6 fd6) {fd7 : FuncData} (KRck : MkC P w K mg base "Reckoning" 4 ["self", "word", "one", "other"] (spInitK K c) c.rck f7 fd7) {fd8 : FuncData} (KChc : MkC P w K mg base "Choice" 4 ["self", "word", "one", "other", "chosen", "otherwise"] (spInitC K c) c.chc f8 fd8) {fd9 : FuncData} (MO : MC P w K mg base R "bracket_opens" 2 ["self"] [] [] (spOpens R) f9 fd9) {fd10 : FuncData} (MX : MC P w K mg base R "bracket_closes" 2 ["self"] [] [] (spCloses R) f10 fd10) :
    ∀ n, Cal P w K mg base "questions_here" (2 * n + 5) ["reader", "count"] (spQsh c R n) f4 fd4 ∧ Cal P w K mg base "question_here" (2 * n + 6) ["reader"] (spQh c R n) f fd
  | 0 => by
    have a : Cal P w K mg base "questions_here" (2 * 0 + 5) ["reader", "count"] (spQsh c R 0) f4 fd4 := ⟨FnOk.no (fun vs H Q E h => by obtain ⟨r, xs, _, m, _, _, _, _, hm, _⟩ := h; cases hm), ns, Fs.kp, bs⟩
    exact ⟨a, ok_qh Fq N ZT VQ MB MD ME a CG KGth KRck KChc, nq, Fq.kp, bq⟩
  | n + 1 => by
    obtain ⟨_, h2⟩ := qh_all Fq nq bq Fs ns bs N ZT VQ MB MD ME CG KGth KRck KChc MO MX n
    have a : Cal P w K mg base "questions_here" (2 * (n + 1) + 5) ["reader", "count"] (spQsh c R (n + 1)) f4 fd4 := ⟨ok_qsh Fs N MO MX h2, ns, Fs.kp, bs⟩
    exact ⟨a, ok_qh Fq N ZT VQ MB MD ME a CG KGth KRck KChc, nq, Fq.kp, bq⟩
theorem ok_qhE {c : Cs} {f f1 f2 f3 f4 f5 f6 f7 f8 f9 f10 R : Addr} {fd : FuncData} (Fq : Fun K "question_here" "question_here" sQh f fd) (nq : mg "question_here" = some (.ref f)) (bq : Binds K fd ["reader"] []) {fd4 : FuncData} (Fs : Fun K "questions_here" "questions_here" sQsh f4 fd4) (ns : mg "questions_here" = some (.ref f4)) (bs : Binds K fd4 ["reader", "count"] []) (N : Free mg) (ZT : ConT K mg) (VQ : ∀ C ∈ c.all, QuC K C) {fd1 : FuncData} (MB : MC P w K mg base R "beginning_here" 2 ["self"] [] [] (spBeg R) f1 fd1) {fd2 : FuncData} (MD : MC P w K mg base R "day_here" 4 ["self", "earliest"] [] [] (spDayH R) f2 fd2) {fd3 : FuncData} (ME : MC P w K mg base R "keys_here" 4 ["self"] [] [] (spKeysH R) f3 fd3) {fd5 : FuncData} (CG : Cal P w K mg base "single_here" 5 ["reader", "word"] (spSingle c R) f5 fd5) {fd6 : FuncData} (KGth : MkC P w K mg base "Gathering" 3 ["self", "word", "keys", "first", "last"] (spIGth K) c.gth f6 fd6) {fd7 : FuncData} (KRck : MkC P w K mg base "Reckoning" 4 ["self", "word", "one", "other"] (spInitK K c) c.rck f7 fd7) {fd8 : FuncData} (KChc : MkC P w K mg base "Choice" 4 ["self", "word", "one", "other", "chosen", "otherwise"] (spInitC K c) c.chc f8 fd8) {fd9 : FuncData} (MO : MC P w K mg base R "bracket_opens" 2 ["self"] [] [] (spOpens R) f9 fd9) {fd10 : FuncData} (MX : MC P w K mg base R "bracket_closes" 2 ["self"] [] [] (spCloses R) f10 fd10) :
    FnOk P w K mg base CX0 12 f fd ["reader"] (spQhE c R) := FnOk.ex (sp := spQh c R) (N := 3) fun n hn => FnOk.mono (qh_all Fq nq bq Fs ns bs N ZT VQ MB MD ME CG KGth KRck KChc MO MX n).2.ok (by omega)
end
inductive QoI (c : Cs) (n : Nat) (nd : Nd) (H : Hp) (Q : VK) : Prop
  | mk (ok : NdOk n nd) (hn : n ≤ 3) (q : ∀ x H', H x = none → Grow H H' → QnAt c n nd (wo H H') x → Q (.ref x) H') : QoI c n nd H Q
def spQof (c : Cs) : Sp := fun vs H Q _ => ∃ (n : Nat) (nd : Nd), vs = [.str (jn (wordsN n nd))] ∧ QoI c n nd H Q
section
variable {P : Program} {w : World} {K : PySem.W.Frag} {mg : Str → Option Value} {base : Heap}
theorem scQof : FnScope ["text", "reader", "question"] ["text"] (defScope sQof) := ⟨rfl, rfl, rfl, by decide +kernel, rfl, by decide +kernel, by decide +kernel⟩
theorem ok_qof {c : Cs} {f f1 f2 f3 R : Addr} {fd : FuncData} (F : Fun K "question_of" "question_of" sQof f fd) (N : Free mg) {fd1 : FuncData} (KR : MkC P w K mg base "Reader" 1 ["self", "text"] (spInitR R) R f1 fd1) {fd2 : FuncData} (CQ : Cal P w K mg base "question_here" 12 ["reader"] (spQhE c R) f2 fd2) {fd3 : FuncData} (MZ : MC P w K mg base R "check_end" 1 ["self"] [] [] (spEnd R) f3 fd3) : FnOk P w K mg base CX0 13 f fd ["text"] (spQof c) := by
  refine F.ok (k := 12) scQof (fun vs H Q E h => ?_) (fun cdv A outer s H vs Q E hr h => ?_)
  · obtain ⟨n, nd, rfl, _⟩ := h
    rfl
  · obtain ⟨n, nd, rfl, ok, hn, q⟩ := h
    have hu := hu_of hr
    refine ⟨_, (pss_cons (ps_if (pt_not (pt_val (pe_callB call_isinst (by rfl) N.isinstance PyProof.Rows.Boot.«isinstance» (pa_kons (pv 0) (pa_kons (pe_bltn (v := .ty "str") (by rfl) N.str PyProof.Rows.Boot.«str» rfl) pa_nil))))) (pss_one ps_never) pss_nil)
      (pss_cons (ps_set (i := 1) scQof.nd rfl (Or.inl rfl) (pe_make KR.km KR.ok (hr.mono (by decide)) rfl KR.nm KR.bd .nil pass0 (pa_kons (pv 0) pa_nil)))
      (pss_cons (ps_set (i := 2) scQof.nd rfl (Or.inl rfl) (pe_call CQ.ok (hr.mono (by decide)) rfl CQ.nm CQ.kp CQ.bd .nil pass0 (pa_kons (pv 1) pa_nil)))
      (pss_cons (ps_expr (pe_meth0 (pv 1) MZ.cl MZ.mt MZ.ok (hr.mono (by decide)) MZ.bd MZ.dv pass0))
      (pss_one (ps_ret (pv 2))))))), ?_⟩
    have hws := words_wd ok
    have hwl := Nat.le_trans (words_len ok) (Wn_le hn)
    have hjl := jn_len (ws := wordsN n nd) (m := 79) fun w hw => (hws w hw).len
    refine rd_seq (rd_if ⟨_, rfl, _, _, _, _, rfl, .str _, rfl, _, rfl, ?_⟩)
    refine iteF (rd_next ?_)
    dsimp only
    refine rd_seq (rd_asg ⟨_, rfl, ?_⟩)
    intro r dr nr ndr ne
    refine ⟨r, dr, wordsN n nd, rfl, upd_same, words_ne n ok, by omega, fun w hw => (hws w hw).free, Nat.le_trans hjl (Nat.le_trans (show _ ≤ 100000 by omega) (by decide)), fun lw H1 nlw o1 h1 => ⟨rfl, ?_⟩⟩
    dsimp only [gName, List.set_cons_zero, List.set_cons_succ]
    have g1 : Grow H H1 := fun b o e => o1 _ _ (by rw [upd_ne (ne_of_none e nr), upd_ne (ne_of_none e ndr)]; exact e) (ne_of_none e nr)
    refine rd_seq (rd_asg ⟨_, rfl, n, hn, r, nd, rfl, lw, _, 0, 0, ok, h1, At.all _, by omega, hn, fun x H2 nx o2 h2 qn => ?_⟩)
    dsimp only [gName, List.set_cons_zero, List.set_cons_succ]
    rw [Nat.zero_add] at h2
    have g2 : Grow H H2 := fun b o e => o2 _ _ (g1 _ _ e) (ne_of_none e nr)
    obtain ⟨d2, ho2⟩ := h2.ob
    refine rd_seq (rd_expr ⟨_, rfl, r, d2, _, rfl, ho2, rf_no _ _ _ (by decide +kernel) (by decide +kernel) (by decide +kernel), r, lw, _, 0, rfl, h2, ?_⟩)
    dsimp only
    exact rd_ret ⟨_, rfl, q x H2 (free_of g1 nx) g2 (QnAt.keep (Kq.grow (wo_sub (H0 := H) fun b hb => free_of g1 hb)) qn)⟩
end
end Mine
namespace Mine
open PySem L2
def lfV (p : Addr) : Lf → List V
  | .num z => [.str (Str.ofString "number"), .int z]
  | .val k d => [.str (Str.ofString "value"), .str k, .int d]
  | .gth w _ f l => [.str w, .ref p, .int f, .int l]
  | .snc k b f l => [.str (Str.ofString "since"), .str k, .int b, .int f, .int l]
  | .prt a b f l => [.str (Str.ofString "part"), .str a, .str b, .int f, .int l]
  | .chg r k f l => [.str (Str.ofString "change"), .int r, .str k, .int f, .int l]
def lfL (p : Addr) (H : Hp) : Lf → Prop
  | .gth _ ks _ _ => H p = some (.lst (ks.map V.str))
  | _ => True
inductive LN (l : Lf) (H : Hp) (a : Addr) : Prop
  | mk (p : Addr) (h1 : H a = some (.tup (lfV p l))) (h2 : lfL p H l) : LN l H a
inductive BN (w : Str) (xs : List Nd) (F : Addr → Nd → Prop) (H : Hp) (a : Addr) : Prop
  | mk (li : Addr) (as : List Addr) (h1 : H a = some (.tup [.str w, .ref li])) (h2 : H li = some (.lst (as.map V.ref))) (h3 : Paired F as xs) : BN w xs F H a
def NdAt : Nat → Nd → Hp → Addr → Prop
  | 0, .leaf l, H, a => LN l H a
  | 0, .brk _ _, _, _ => False
  | _ + 1, .leaf l, H, a => LN l H a
  | n + 1, .brk w xs, H, a => BN w xs (fun a q => NdAt n q H a) H a
theorem nd_leaf {n : Nat} {l : Lf} {H : Hp} {a : Addr} : NdAt n (.leaf l) H a ↔ LN l H a := by cases n <;> exact Iff.rfl
theorem LN.keep {l : Lf} {H H' : Hp} {a : Addr} (h : LN l H a) (g : Grow H H') : LN l H' a := by
  obtain ⟨p, h1, h2⟩ := h
  refine ⟨p, g _ _ h1, ?_⟩
  cases l <;> first | exact True.intro | exact g _ _ h2
theorem NdAt.keep {H H' : Hp} (g : Grow H H') : ∀ {n : Nat} {nd : Nd} {a : Addr}, NdAt n nd H a → NdAt n nd H' a
  | 0, .leaf l, a, h => LN.keep (show LN l H a from h) g
  | 0, .brk _ _, _, h => (show False from h).elim
  | _ + 1, .leaf l, a, h => LN.keep (show LN l H a from h) g
  | n + 1, .brk w xs, a, h => by
    obtain ⟨li, as, h1, h2, h3⟩ : BN w xs (fun a q => NdAt n q H a) H a := h
    exact BN.mk li as (g _ _ h1) (g _ _ h2) (Paired.mono (fun a q h => NdAt.keep g h) h3)
theorem SAt.free {H H1 : Hp} {s a : Addr} (h : SAt H1 s) (o : Off s H H1) (n : H1 a = none) : H a = none := by
  cases e : H a with
  | none => rfl
  | some u =>
    by_cases z : a = s
    · obtain ⟨xs, es⟩ := h.lst
      rw [z, es] at n; cases n
    · rw [o _ _ e z] at n; cases n
theorem nm_at {ss : List Str} {n : Int} (h : Nms ss) (n0 : 0 ≤ n) (n1 : n < 8) : ∃ k, atI (ss.map V.str) n = some (.str k) ∧ IsNm k := by
  obtain ⟨hl, _, hk⟩ := h
  obtain ⟨j, rfl⟩ : ∃ j : Nat, n = (j : Int) := ⟨n.toNat, by omega⟩
  have hj : j < ss.length := by omega
  exact ⟨ss[j], atI_nat (by rw [List.getElem?_map, List.getElem?_eq_getElem hj]; rfl), hk _ (List.getElem_mem hj)⟩
abbrev w9 : List Str := [Str.ofString "value", Str.ofString "sum", Str.ofString "count", Str.ofString "least", Str.ofString "greatest", Str.ofString "since", Str.ofString "part", Str.ofString "change", Str.ofString "number"]
theorem at9 {n : Int} (n0 : 0 ≤ n) (n1 : n < 9) : ∃ w, atI (w9.map V.str) n = some (.str w) ∧ (w ∈ gthW ∨ w = Str.ofString "value" ∨ w = Str.ofString "since" ∨ w = Str.ofString "part" ∨ w = Str.ofString "change" ∨ w = Str.ofString "number") := by
  rcases (show n = 0 ∨ n = 1 ∨ n = 2 ∨ n = 3 ∨ n = 4 ∨ n = 5 ∨ n = 6 ∨ n = 7 ∨ n = 8 by omega) with rfl | rfl | rfl | rfl | rfl | rfl | rfl | rfl | rfl
  · exact ⟨_, rfl, .inr (.inl rfl)⟩
  · exact ⟨_, rfl, .inl (by decide +kernel)⟩
  · exact ⟨_, rfl, .inl (by decide +kernel)⟩
  · exact ⟨_, rfl, .inl (by decide +kernel)⟩
  · exact ⟨_, rfl, .inl (by decide +kernel)⟩
  · exact ⟨_, rfl, .inr (.inr (.inl rfl))⟩
  · exact ⟨_, rfl, .inr (.inr (.inr (.inl rfl)))⟩
  · exact ⟨_, rfl, .inr (.inr (.inr (.inr (.inl rfl))))⟩
  · exact ⟨_, rfl, .inr (.inr (.inr (.inr (.inr rfl))))⟩
theorem gth_not : ∀ w ∈ gthW, w ≠ Str.ofString "number" ∧ w ≠ Str.ofString "value" ∧ w ≠ Str.ofString "since" ∧ w ≠ Str.ofString "part" ∧ w ≠ Str.ofString "change" := by decide +kernel
theorem str_ne {x y : Str} (h : x ≠ y) : ¬ V.str x = V.str y := fun z => h (V.str.inj z)
inductive LeI (s ln t : Addr) (m : Int) (H : Hp) (Q : VK) : Prop
  | mk (ss : List Str) (lo wd : Int) (hs : SAt H s) (el : H ln = some (.lst (ss.map V.str))) (hss : Nms ss) (nls : ln ≠ s) (et : H t = some (.tup [.int lo, .int wd])) (nts : t ≠ s) (h0 : 0 ≤ lo) (h1 : 1 ≤ wd) (h2 : lo + wd ≤ 400) (m1 : 1 ≤ m) (m2 : m ≤ 8) (q : ∀ (a : Addr) (l : Lf) (H' : Hp), LfOk l → H a = none → Off s H H' → SAt H' s → LN l (wo H H') a → Q (.ref a) H') : LeI s ln t m H Q
def spLeaf : Sp := fun vs H Q _ => ∃ (s ln t : Addr) (m : Int), vs = [.ref s, .ref ln, .ref t, .int m] ∧ LeI s ln t m H Q
theorem leaf_end {H H1 : Hp} {s a : Addr} {l : Lf} {p : Addr} (hs : SAt H1 s) (o : Off s H H1) (na : H1 a = none) (hl : lfL p (wo H H1) l) : H a = none ∧ Off s H (upd H1 a (.tup (lfV p l))) ∧ SAt (upd H1 a (.tup (lfV p l))) s ∧ LN l (wo H (upd H1 a (.tup (lfV p l)))) a := by
  have f := hs.free o na
  obtain ⟨g, e⟩ := laid (o := .tup (lfV p l)) na
  refine ⟨f, o.trans (Off.grow g), hs.keep g, p, by rw [wo_new f]; exact e, ?_⟩
  cases l <;> first | exact True.intro | exact (wo_grow fun b u _ eb => g _ _ eb) _ _ hl
section
variable {P : Program} {w : World} {K : PySem.W.Frag} {mg : Str → Option Value} {base : Heap}
theorem scLLeaf : FnScope ["_law_state", "_law_names_here", "_law_window_here", "_law_most", "_law_word", "_law_first", "_law_last"] ["_law_state", "_law_names_here", "_law_window_here", "_law_most"] (defScope sLLeaf) := ⟨rfl, rfl, rfl, by decide +kernel, rfl, by decide +kernel, by decide +kernel⟩
theorem ok_lLeaf {f f1 f2 f3 f4 : Addr} {fd : FuncData} (F : Fun K "_law_leaf" "_law_leaf" sLLeaf f fd) (N : Free mg) {fd1 : FuncData} (CP : Cal P w K mg base "_law_pull" 2 ["_law_state", "_law_many"] spPull f1 fd1) {fd2 : FuncData} (CS : Cal P w K mg base "_law_some" 3 ["_law_state", "_law_names_here", "_law_most"] spSome f2 fd2) {fd3 : FuncData} (CD : Cal P w K mg base "_law_days" 3 ["_law_state", "_law_window_here"] spDays f3 fd3) {fd4 : FuncData} (CA : Cal P w K mg base "_law_amount" 3 ["_law_state"] spAmount f4 fd4) : FnOk P w K mg base CX0 4 f fd ["_law_state", "_law_names_here", "_law_window_here", "_law_most"] spLeaf := by
  refine F.ok (k := 3) scLLeaf (fun vs H Q E h => ?_) (fun cdv A outer s H vs Q E hr h => ?_)
  · obtain ⟨s, ln, t, m, rfl, _⟩ := h
    rfl
  · obtain ⟨s, ln, t, m, rfl, ss, lo, wd, hs, el, hss, nls, et, nts, h0, h1, h2, m1, m2, q⟩ := h
    have hu := hu_of hr
    refine ⟨_, (@pss_cons _ _ _ _ _ (@ps_set (i := 4) _ _ _ _ _ _ scLLeaf.nd rfl (Or.inl rfl) (@pe_ix _ _ _ _ _ _ _ ix_list (@pe_lst _ _ _ _ (@pa_kons _ _ _ _ _ pe_str (@pa_kons _ _ _ _ _ pe_str (@pa_kons _ _ _ _ _ pe_str (@pa_kons _ _ _ _ _ pe_str (@pa_kons _ _ _ _ _ pe_str (@pa_kons _ _ _ _ _ pe_str (@pa_kons _ _ _ _ _ pe_str (@pa_kons _ _ _ _ _ pe_str (@pa_kons _ _ _ _ _ pe_str pa_nil rfl) rfl) rfl) rfl) rfl) rfl) rfl) rfl) rfl)) (pe_call CP.ok (hr.mono (by decide)) rfl CP.nm CP.kp CP.bd .nil pass0 (@pa_kons _ _ _ _ _ (pv 0) (@pa_kons _ _ _ _ _ pe_int pa_nil rfl) rfl)) (fun _ _ => rfl)) (by rfl) (by first | exact .inl rfl | exact .inr rfl))
      (pss_cons (ps_if (pt_cmpR op_eq (pv 4) pe_str (nomark _)) (@pss_one _ _ _ (@ps_ret _ _ _ _ (@pe_tup _ _ _ _ _ (@pa_kons _ _ _ _ _ (pv 4) (@pa_kons _ _ _ _ _ (pe_call CA.ok (hr.mono (by decide)) rfl CA.nm CA.kp CA.bd .nil pass0 (@pa_kons _ _ _ _ _ (pv 0) pa_nil rfl)) pa_nil rfl) rfl)))) pss_nil)
      (pss_cons (ps_asg (pe_call CD.ok (hr.mono (by decide)) rfl CD.nm CD.kp CD.bd .nil pass0 (pa_kons (pv 0) (pa_kons (pv 2) pa_nil))) (pg_tup rfl (pgs_cons (pg_name (i := 5) scLLeaf.nd rfl (Or.inl rfl)) (pgs_cons (pg_name (i := 6) scLLeaf.nd rfl (Or.inl rfl)) pgs_nil))))
      (pss_cons (ps_if (pt_cmpR op_eq (pv 4) pe_str (nomark _)) (@pss_one _ _ _ (@ps_ret _ _ _ _ (@pe_tup _ _ _ _ _ (@pa_kons _ _ _ _ _ (pv 4) (@pa_kons _ _ _ _ _ (@pe_ix _ _ _ _ _ _ _ ix_list (pv 1) (pe_call CP.ok (hr.mono (by decide)) rfl CP.nm CP.kp CP.bd .nil pass0 (@pa_kons _ _ _ _ _ (pv 0) (@pa_kons _ _ _ _ _ pe_int pa_nil rfl) rfl)) (fun _ _ => rfl)) (@pa_kons _ _ _ _ _ (pv 6) pa_nil rfl) rfl) rfl)))) pss_nil)
      (pss_cons (ps_if (pt_cmpR op_eq (pv 4) pe_str (nomark _)) (@pss_one _ _ _ (@ps_ret _ _ _ _ (@pe_tup _ _ _ _ _ (@pa_kons _ _ _ _ _ (pv 4) (@pa_kons _ _ _ _ _ (@pe_ix _ _ _ _ _ _ _ ix_list (pv 1) (pe_call CP.ok (hr.mono (by decide)) rfl CP.nm CP.kp CP.bd .nil pass0 (@pa_kons _ _ _ _ _ (pv 0) (@pa_kons _ _ _ _ _ pe_int pa_nil rfl) rfl)) (fun _ _ => rfl)) (@pa_kons _ _ _ _ _ (pe_call CA.ok (hr.mono (by decide)) rfl CA.nm CA.kp CA.bd .nil pass0 (@pa_kons _ _ _ _ _ (pv 0) pa_nil rfl)) (@pa_kons _ _ _ _ _ (pv 5) (@pa_kons _ _ _ _ _ (pv 6) pa_nil rfl) rfl) rfl) rfl) rfl)))) pss_nil)
      (pss_cons (ps_if (pt_cmpR op_eq (pv 4) pe_str (nomark _)) (@pss_one _ _ _ (@ps_ret _ _ _ _ (@pe_tup _ _ _ _ _ (@pa_kons _ _ _ _ _ (pv 4) (@pa_kons _ _ _ _ _ (@pe_ix _ _ _ _ _ _ _ ix_list (pv 1) (pe_call CP.ok (hr.mono (by decide)) rfl CP.nm CP.kp CP.bd .nil pass0 (@pa_kons _ _ _ _ _ (pv 0) (@pa_kons _ _ _ _ _ pe_int pa_nil rfl) rfl)) (fun _ _ => rfl)) (@pa_kons _ _ _ _ _ (@pe_ix _ _ _ _ _ _ _ ix_list (pv 1) (pe_call CP.ok (hr.mono (by decide)) rfl CP.nm CP.kp CP.bd .nil pass0 (@pa_kons _ _ _ _ _ (pv 0) (@pa_kons _ _ _ _ _ pe_int pa_nil rfl) rfl)) (fun _ _ => rfl)) (@pa_kons _ _ _ _ _ (pv 5) (@pa_kons _ _ _ _ _ (pv 6) pa_nil rfl) rfl) rfl) rfl) rfl)))) pss_nil)
      (pss_cons (ps_if (pt_cmpR op_eq (pv 4) pe_str (nomark _)) (@pss_one _ _ _ (@ps_ret _ _ _ _ (@pe_tup _ _ _ _ _ (@pa_kons _ _ _ _ _ (pv 4) (@pa_kons _ _ _ _ _ (@pe_op _ _ _ _ _ _ _ _ op_add pe_int (pe_call CP.ok (hr.mono (by decide)) rfl CP.nm CP.kp CP.bd .nil pass0 (@pa_kons _ _ _ _ _ (pv 0) (@pa_kons _ _ _ _ _ (@pe_ix _ _ _ _ _ _ _ ix_list (@pe_lst _ _ _ _ (@pa_kons _ _ _ _ _ pe_int (@pa_kons _ _ _ _ _ pe_int pa_nil rfl) rfl)) (pe_call CP.ok (hr.mono (by decide)) rfl CP.nm CP.kp CP.bd .nil pass0 (@pa_kons _ _ _ _ _ (pv 0) (@pa_kons _ _ _ _ _ pe_int pa_nil rfl) rfl)) (fun _ _ => rfl)) pa_nil rfl) rfl))) (@pa_kons _ _ _ _ _ (@pe_ix _ _ _ _ _ _ _ ix_list (pv 1) (pe_call CP.ok (hr.mono (by decide)) rfl CP.nm CP.kp CP.bd .nil pass0 (@pa_kons _ _ _ _ _ (pv 0) (@pa_kons _ _ _ _ _ pe_int pa_nil rfl) rfl)) (fun _ _ => rfl)) (@pa_kons _ _ _ _ _ (pv 5) (@pa_kons _ _ _ _ _ (pv 6) pa_nil rfl) rfl) rfl) rfl) rfl)))) pss_nil)
      (@pss_one _ _ _ (@ps_ret _ _ _ _ (@pe_tup _ _ _ _ _ (@pa_kons _ _ _ _ _ (pv 4) (@pa_kons _ _ _ _ _ (pe_call CS.ok (hr.mono (by decide)) rfl CS.nm CS.kp CS.bd .nil pass0 (@pa_kons _ _ _ _ _ (pv 0) (@pa_kons _ _ _ _ _ (pv 1) (@pa_kons _ _ _ _ _ (pv 3) pa_nil rfl) rfl) rfl)) (@pa_kons _ _ _ _ _ (pv 5) (@pa_kons _ _ _ _ _ (pv 6) pa_nil rfl) rfl) rfl) rfl))))))))))), ?_⟩
    refine rd_seq (rd_asg ⟨by show 9 ≤ sizeLine; decide, fun lw nlw => ?_⟩)
    obtain ⟨g1, e1⟩ := laid (o := .lst (w9.map V.str)) nlw
    have hs1 := hs.keep g1
    have nws : lw ≠ s := fun z => by obtain ⟨xs, e⟩ := hs.lst; rw [z, e] at nlw; cases nlw
    have o1 : Off s H (upd H lw (.lst (w9.map V.str))) := Off.grow g1
    change tCall _ _ _ _ _ (upd H lw (.lst (w9.map V.str))) _
    generalize upd H lw (.lst (w9.map V.str)) = H1 at g1 e1 hs1 o1 ⊢
    refine ⟨_, rfl, s, 9, rfl, hs1, by decide, by decide, fun n H2 n0 n1 p2 hs2 => ?_⟩
    obtain ⟨w, ew, hw⟩ := at9 n0 n1
    refine ⟨lw, _, _, _, rfl, rfl, SqL.of (p2 _ _ e1 nws), ew, ?_⟩
    dsimp only [gName, List.set_cons_zero, List.set_cons_succ]
    have o2 := o1.trans p2
    have okn : ∀ {H' : Hp}, Off s H H' → H' ln = some (.lst (ss.map V.str)) := fun o => o _ _ el nls
    by_cases zn : w = Str.ofString "number"
    · subst zn
      refine rd_seq (rd_if ⟨_, rfl, rfl, _, rfl, ?_⟩)
      refine iteT ?_
      refine rd_ret ⟨_, rfl, _, rfl, s, rfl, hs2, fun z H3 p3 hs3 z0 z1 => ⟨by show 2 ≤ sizeLine; decide, fun a na => ?_⟩⟩
      obtain ⟨f, o, hs', hl⟩ := leaf_end (l := .num z) (p := a) hs3 (o2.trans p3) na True.intro
      exact q a (.num z) _ ⟨z0, z1⟩ f o hs' hl
    refine rd_seq (rd_if ⟨_, rfl, rfl, _, rfl, ?_⟩)
    rw [decide_eq_false (str_ne zn)]
    refine iteF (rd_next ?_)
    dsimp only
    refine rd_seq (rd_asg ⟨_, rfl, _, rfl, s, t, lo, wd, rfl, hs2, o2 _ _ et nts, nts, h0, h1, h2, fun u f0 l0 H3 p3 hs3 eu d1 d2 d3 => ?_⟩)
    refine ⟨u, _, rfl, SqT.of eu, rfl, _, _, rfl, _, _, rfl, rfl, ?_⟩
    dsimp only [gName, List.set_cons_zero, List.set_cons_succ]
    have o3 := o2.trans p3
    have hd : Day2 f0 l0 := ⟨d1, d2, by omega⟩
    rcases hw with hw | rfl | rfl | rfl | rfl | hw
    · have gn := gth_not w hw
      refine rd_seq (rd_if ⟨_, rfl, rfl, _, rfl, ?_⟩)
      rw [decide_eq_false (str_ne (gth_not w hw).2.1)]
      refine iteF (rd_next ?_)
      dsimp only
      refine rd_seq (rd_if ⟨_, rfl, rfl, _, rfl, ?_⟩)
      rw [decide_eq_false (str_ne (gth_not w hw).2.2.1)]
      refine iteF (rd_next ?_)
      dsimp only
      refine rd_seq (rd_if ⟨_, rfl, rfl, _, rfl, ?_⟩)
      rw [decide_eq_false (str_ne (gth_not w hw).2.2.2.1)]
      refine iteF (rd_next ?_)
      dsimp only
      refine rd_seq (rd_if ⟨_, rfl, rfl, _, rfl, ?_⟩)
      rw [decide_eq_false (str_ne (gth_not w hw).2.2.2.2)]
      refine iteF (rd_next ?_)
      dsimp only
      refine rd_ret ⟨_, rfl, _, rfl, _, rfl, _, rfl, s, ln, ss, m, rfl, hs3, okn o3, nls, m1, (by rw [hss.1]; exact m2), (by rw [hss.1]; decide), fun p xs ys H4 np p4 hs4 ep hne hpm hlm => ?_⟩
      refine ⟨_, rfl, _, rfl, by show 4 ≤ sizeLine; decide, fun a na => ?_⟩
      have o4 := o3.trans p4
      have hsub : ∀ k ∈ xs, IsNm k := fun k hk => hss.2.2 k (hpm.mem_iff.mp (List.mem_append_left _ hk))
      have hnd : xs.Nodup := (List.nodup_append.mp (hpm.nodup_iff.mpr hss.2.1)).1
      obtain ⟨f, o, hs', hl⟩ := leaf_end (l := .gth w xs f0 l0) (p := p) hs4 o4 na (show wo H H4 p = _ by rw [wo_new (hs3.free o3 np)]; exact ep)
      exact q a (.gth w xs f0 l0) _ ⟨hw, ⟨List.length_pos_iff.mpr hne, by omega, hnd, hsub⟩, hd⟩ f o hs' hl
    · refine rd_seq (rd_if ⟨_, rfl, rfl, _, rfl, ?_⟩)
      refine iteT ?_
      refine rd_ret ⟨_, rfl, _, rfl, _, rfl, s, 8, rfl, hs3, by decide, by decide, fun n4 H4 m40 m41 p4 hs4 => ?_⟩
      have o4 := o3.trans p4
      obtain ⟨k, ek, hk⟩ := nm_at hss m40 m41
      refine ⟨ln, _, _, _, rfl, rfl, SqL.of (okn o4), ek, _, rfl, by show 3 ≤ sizeLine; decide, fun a na => ?_⟩
      obtain ⟨f, o, hs', hl⟩ := leaf_end (l := .val k l0) (p := a) hs4 o4 na True.intro
      exact q a (.val k l0) _ ⟨hk, by omega, by omega⟩ f o hs' hl
    · refine rd_seq (rd_if ⟨_, rfl, rfl, _, rfl, ?_⟩)
      rw [show decide (V.str (Str.ofString "since") = V.str (Str.ofString "value")) = false from by decide +kernel]
      refine iteF (rd_next ?_)
      dsimp only
      refine rd_seq (rd_if ⟨_, rfl, rfl, _, rfl, ?_⟩)
      refine iteT ?_
      refine rd_ret ⟨_, rfl, _, rfl, _, rfl, s, 8, rfl, hs3, by decide, by decide, fun n4 H4 m40 m41 p4 hs4 => ?_⟩
      have o4 := o3.trans p4
      obtain ⟨k, ek, hk⟩ := nm_at hss m40 m41
      refine ⟨ln, _, _, _, rfl, rfl, SqL.of (okn o4), ek, _, rfl, s, rfl, hs4, fun b0 H5 p5 hs5 z0 z1 => ⟨_, rfl, _, rfl, by show 5 ≤ sizeLine; decide, fun a na => ?_⟩⟩
      obtain ⟨f, o, hs', hl⟩ := leaf_end (l := .snc k b0 f0 l0) (p := a) hs5 (o4.trans p5) na True.intro
      exact q a (.snc k b0 f0 l0) _ ⟨hk, ⟨z0, z1⟩, hd⟩ f o hs' hl
    · refine rd_seq (rd_if ⟨_, rfl, rfl, _, rfl, ?_⟩)
      rw [show decide (V.str (Str.ofString "part") = V.str (Str.ofString "value")) = false from by decide +kernel]
      refine iteF (rd_next ?_)
      dsimp only
      refine rd_seq (rd_if ⟨_, rfl, rfl, _, rfl, ?_⟩)
      rw [show decide (V.str (Str.ofString "part") = V.str (Str.ofString "since")) = false from by decide +kernel]
      refine iteF (rd_next ?_)
      dsimp only
      refine rd_seq (rd_if ⟨_, rfl, rfl, _, rfl, ?_⟩)
      refine iteT ?_
      refine rd_ret ⟨_, rfl, _, rfl, _, rfl, s, 8, rfl, hs3, by decide, by decide, fun n4 H4 m40 m41 p4 hs4 => ?_⟩
      have o4 := o3.trans p4
      obtain ⟨k, ek, hk⟩ := nm_at hss m40 m41
      refine ⟨ln, _, _, _, rfl, rfl, SqL.of (okn o4), ek, _, rfl, _, rfl, s, 8, rfl, hs4, by decide, by decide, fun n5 H5 m50 m51 p5 hs5 => ?_⟩
      have o5 := o4.trans p5
      obtain ⟨k2, ek2, hk2⟩ := nm_at hss m50 m51
      refine ⟨ln, _, _, _, rfl, rfl, SqL.of (okn o5), ek2, _, rfl, _, rfl, by show 5 ≤ sizeLine; decide, fun a na => ?_⟩
      obtain ⟨f, o, hs', hl⟩ := leaf_end (l := .prt k k2 f0 l0) (p := a) hs5 o5 na True.intro
      exact q a (.prt k k2 f0 l0) _ ⟨hk, hk2, hd⟩ f o hs' hl
    · refine rd_seq (rd_if ⟨_, rfl, rfl, _, rfl, ?_⟩)
      rw [show decide (V.str (Str.ofString "change") = V.str (Str.ofString "value")) = false from by decide +kernel]
      refine iteF (rd_next ?_)
      dsimp only
      refine rd_seq (rd_if ⟨_, rfl, rfl, _, rfl, ?_⟩)
      rw [show decide (V.str (Str.ofString "change") = V.str (Str.ofString "since")) = false from by decide +kernel]
      refine iteF (rd_next ?_)
      dsimp only
      refine rd_seq (rd_if ⟨_, rfl, rfl, _, rfl, ?_⟩)
      rw [show decide (V.str (Str.ofString "change") = V.str (Str.ofString "part")) = false from by decide +kernel]
      refine iteF (rd_next ?_)
      dsimp only
      refine rd_seq (rd_if ⟨_, rfl, rfl, _, rfl, ?_⟩)
      refine iteT ?_
      refine rd_ret ⟨_, rfl, ?_⟩
      refine rd_cons (rd_op ?_)
      dsimp only [tC]
      refine ⟨_, rfl, by show 2 ≤ sizeLine; decide, fun l2 nl2 => ?_⟩
      obtain ⟨g4, e4⟩ := laid (o := .lst [V.int 3, V.int 400]) nl2
      have hs4 := hs3.keep g4
      have n2s : l2 ≠ s := fun z => by obtain ⟨xs, e⟩ := hs3.lst; rw [z, e] at nl2; cases nl2
      have o4 := o3.trans (Off.grow g4)
      generalize upd H3 l2 _ = H4 at g4 e4 hs4 o4 ⊢
      refine ⟨_, rfl, s, 2, rfl, hs4, by decide, by decide, fun n5 H5 m0 m1' p5 hs5 => ?_⟩
      have o5 := o4.trans p5
      obtain ⟨mm, em, hm1, hm2⟩ : ∃ mm : Int, atI [V.int 3, V.int 400] n5 = some (.int mm) ∧ 1 ≤ mm ∧ mm ≤ 400 := by
        rcases (show n5 = 0 ∨ n5 = 1 by omega) with rfl | rfl
        · exact ⟨3, rfl, by decide, by decide⟩
        · exact ⟨400, rfl, by decide, by decide⟩
      refine ⟨l2, _, _, _, rfl, rfl, SqL.of (p5 _ _ e4 n2s), em, s, mm, rfl, hs5, by omega, by omega, fun r0 H6 r1 r2 p6 hs6 => ?_⟩
      have o6 := o5.trans p6
      refine ⟨_, _, rfl, rfl, ?_⟩
      refine ⟨_, rfl, _, rfl, s, 8, rfl, hs6, by decide, by decide, fun n7 H7 m70 m71 p7 hs7 => ?_⟩
      have o7 := o6.trans p7
      obtain ⟨k, ek, hk⟩ := nm_at hss m70 m71
      refine ⟨ln, _, _, _, rfl, rfl, SqL.of (okn o7), ek, _, rfl, _, rfl, by show 5 ≤ sizeLine; decide, fun a na => ?_⟩
      obtain ⟨f, o, hs', hl⟩ := leaf_end (l := .chg (1 + r0) k f0 l0) (p := a) hs7 o7 na True.intro
      exact q a (.chg (1 + r0) k f0 l0) _ ⟨⟨by omega, by omega⟩, hk, hd⟩ f o hs' hl
    · exact absurd hw zn
end
end Mine
namespace Mine
open PySem L2
abbrev sLq : Stmt := top 55
theorem rd_ifB {t : TT} {s1 s2 : TS} {D : Ends} {σ : St} {H : Hp} (c : Bool) (h : ∀ Q : Bool → Hp → Prop, Q c H → t σ H Q) (h1 : c = true → s1 D σ H) (h2 : c = false → s2 D σ H) : tIfS t s1 s2 D σ H := by
  refine rd_if (h _ ?_)
  cases c with
  | true => exact iteT (h1 rfl)
  | false => exact iteF (h2 rfl)
theorem compB_nd {sub : List Nat} {te : TE} {σ : St} {H : Hp} {Q : VK} {s : Addr} {m cnt : Nat} (hs : SAt H s) (hn : cnt ≤ 4)
    (hte : ∀ (i : Nat) (H2 : Hp) (R : VK), i < cnt → SAt H2 s → Off s H H2 → (∀ (a : Addr) (nd : Nd) (H3 : Hp), NdOk m nd → H2 a = none → Off s H2 H3 → SAt H3 s → NdAt m nd (wo H2 H3) a → R (.ref a) H3) → te (some (.int (0 + (i : Int))) :: subσ sub σ) H2 R)
    (hq : ∀ (D : Addr) (as : List Addr) (xs : List Nd) (H' : Hp), H D = none → Off s H H' → SAt H' s → H' D = some (.lst (as.map V.ref)) → Paired (fun a q => NdAt m q (wo H H') a) as xs → xs.length = cnt → (∀ x ∈ xs, NdOk m x) → Q (.ref D) H') : CompB (Itr 0 cnt) sub (fun _ H Q => Q true H) te σ Q H := by
  intro D nD
  have nDs : D ≠ s := fun z => by obtain ⟨xs, e⟩ := hs.lst; rw [z, e] at nD; cases nD
  obtain ⟨g1, e1⟩ := laid (o := .lst []) nD
  have s1 := hs.keep g1
  refine comp_range (lo := 0) (n := cnt) (sub := sub) (tt := fun _ H Q => Q true H) (te := te) (Q := Q) (σ := σ) (fun i ys H2 => ∃ (as : List Addr) (xs : List Nd), ys = as.map V.ref ∧ xs.length = i ∧ H2 D = some (.lst ys) ∧ Off s H H2 ∧ (∀ b o, upd H D (.lst []) b = some o → b ≠ s → b ≠ D → H2 b = some o) ∧ SAt H2 s ∧ Paired (fun a q => NdAt m q (wo (upd H D (.lst [])) H2) a) as xs ∧ ∀ x ∈ xs, NdOk m x) ⟨[], [], rfl, rfl, e1, Off.grow g1, fun b o e _ _ => e, s1, .nil, fun _ z => nomatch z⟩ (fun i ys H2 hi hh => ?_) fun ys H2 hh => ?_
  · obtain ⟨as, xs, rfl, hl, e2, o2, k2, s2, hp, hx⟩ := hh
    have hal := paired_len hp
    refine iteT (hte i _ _ hi s2 o2 fun a nd H3 okn na o3 s3 hn3 => ⟨o3 _ _ e2 nDs, by rw [List.length_map]; exact small1000 (by omega), as ++ [a], xs ++ [nd], by rw [List.map_append]; rfl, by rw [List.length_append, hl]; rfl, upd_same, fun b o e nb => ?_, fun b o e n1 n2 => ?_, ?_, ?_, fun x hx' => ?_⟩)
    · rw [upd_ne (ne_of_none e nD)]; exact o3 _ _ (o2 _ _ e nb) nb
    · rw [upd_ne n2]; exact o3 _ _ (k2 _ _ e n1 n2) n1
    · exact s3.off nDs fun b o e nb => by rw [upd_ne nb]; exact e
    · have kk : ∀ b o, upd H D (.lst []) b = none → H3 b = some o → upd H3 D (.lst (as.map V.ref ++ [.ref a])) b = some o := fun b o n e => by
        rw [upd_ne (fun z => by rw [z, e1] at n; cases n)]; exact e
      have ns : ∀ b, upd H D (.lst []) b = none → b ≠ s := fun b n z => by obtain ⟨xs, e⟩ := s1.lst; rw [z, e] at n; cases n
      refine Paired.snoc (Paired.mono (fun a q0 h0 => NdAt.keep (wo_grow fun b o n e => kk _ _ n (o3 _ _ e (ns b n))) h0) hp) (NdAt.keep (Grow.trans (wo_sub (H0 := upd H D (.lst [])) fun b hb => ?_) (wo_grow kk)) hn3)
      cases e : upd H D (.lst []) b with
      | none => rfl
      | some o =>
        by_cases zs : b = s
        · obtain ⟨xs, es⟩ := s2.lst
          rw [zs, es] at hb; cases hb
        · by_cases zd : b = D
          · rw [zd, e2] at hb; cases hb
          · rw [k2 _ _ e zs zd] at hb; cases hb
    · rcases List.mem_append.mp hx' with h | h
      · exact hx x h
      · rw [List.mem_singleton.mp h]; exact okn
  · obtain ⟨as, xs, rfl, hl, e2, o2, k2, s2, hp, hx⟩ := hh
    exact hq D as xs H2 nD o2 s2 e2 (Paired.mono (fun a q0 h0 => NdAt.keep (wo_sub (H0 := H) fun b hb => free_of g1 hb) h0) hp) hl hx
abbrev w4 : List Str := [Str.ofString "plus", Str.ofString "minus", Str.ofString "less", Str.ofString "same"]
theorem at4 {v : Int} (h0 : 4 ≤ v) (h1 : v < 8) : ∃ (w : Str) (cnt : Nat), atI (w4.map V.str) (v - 4) = some (.str w) ∧ atI [V.int 2, V.int 2, V.int 4, V.int 4] (v - 4) = some (.int (cnt : Int)) ∧ ((w ∈ rckW ∧ cnt = 2) ∨ (w ∈ chcW ∧ cnt = 4)) := by
  rcases (show v = 4 ∨ v = 5 ∨ v = 6 ∨ v = 7 by omega) with rfl | rfl | rfl | rfl
  · exact ⟨_, 2, rfl, rfl, .inl ⟨by decide +kernel, rfl⟩⟩
  · exact ⟨_, 2, rfl, rfl, .inl ⟨by decide +kernel, rfl⟩⟩
  · exact ⟨_, 4, rfl, rfl, .inr ⟨by decide +kernel, rfl⟩⟩
  · exact ⟨_, 4, rfl, rfl, .inr ⟨by decide +kernel, rfl⟩⟩
inductive LqI (n : Nat) (s ln t : Addr) (H : Hp) (Q : VK) : Prop
  | mk (ss : List Str) (lo wd : Int) (hn : n ≤ 3) (hs : SAt H s) (el : H ln = some (.lst (ss.map V.str))) (hss : Nms ss) (nls : ln ≠ s) (et : H t = some (.tup [.int lo, .int wd])) (nts : t ≠ s) (h0 : 0 ≤ lo) (h1 : 1 ≤ wd) (h2 : lo + wd ≤ 400) (q : ∀ (a : Addr) (nd : Nd) (H' : Hp), NdOk n nd → H a = none → Off s H H' → SAt H' s → NdAt n nd (wo H H') a → Q (.ref a) H') : LqI n s ln t H Q
def spLq (n : Nat) : Sp := fun vs H Q _ => ∃ (s ln t : Addr), vs = [.ref s, .ref ln, .ref t, .int (n : Int)] ∧ LqI n s ln t H Q
def spLqP (n : Nat) : Sp := fun vs H Q E => ∃ m, n = m + 1 ∧ spLq m vs H Q E
theorem ok_of_leaf {n : Nat} {l : Lf} (h : LfOk l) : NdOk n (.leaf l) := by cases n <;> exact h
theorem at8 {n : Nat} (h : n ≤ 3) : ∃ m : Int, atI [V.int 8, V.int 3, V.int 2, V.int 2] (n : Int) = some (.int m) ∧ 1 ≤ m ∧ m ≤ 8 := by
  rcases (show n = 0 ∨ n = 1 ∨ n = 2 ∨ n = 3 by omega) with rfl | rfl | rfl | rfl
  · exact ⟨8, rfl, by decide, by decide⟩
  · exact ⟨3, rfl, by decide, by decide⟩
  · exact ⟨2, rfl, by decide, by decide⟩
  · exact ⟨2, rfl, by decide, by decide⟩
section
variable {P : Program} {w : World} {K : PySem.W.Frag} {mg : Str → Option Value} {base : Heap}
theorem scLq : FnScope ["_law_state", "_law_names_here", "_law_window_here", "_law_deep", "_law_way", "_law_word"] ["_law_state", "_law_names_here", "_law_window_here", "_law_deep"] (defScope sLq) := ⟨rfl, rfl, rfl, by decide +kernel, rfl, by decide +kernel, by decide +kernel⟩
theorem ok_lq {n : Nat} {f f1 f2 f3 : Addr} {fd : FuncData} (F : Fun K "_law_question" "_law_question" sLq f fd) (N : Free mg) {fd1 : FuncData} (CP : Cal P w K mg base "_law_pull" 2 ["_law_state", "_law_many"] spPull f1 fd1) {fd2 : FuncData} (CL : Cal P w K mg base "_law_leaf" 4 ["_law_state", "_law_names_here", "_law_window_here", "_law_most"] spLeaf f2 fd2) {fd3 : FuncData} (CQ : Cal P w K mg base "_law_question" (n + 4) ["_law_state", "_law_names_here", "_law_window_here", "_law_deep"] (spLqP n) f3 fd3) : FnOk P w K mg base CX0 (n + 5) f fd ["_law_state", "_law_names_here", "_law_window_here", "_law_deep"] (spLq n) := by
  refine F.ok (k := n + 4) scLq (fun vs H Q E h => ?_) (fun cdv A outer s H vs Q E hr h => ?_)
  · obtain ⟨s, ln, t, rfl, _⟩ := h
    rfl
  · obtain ⟨s, ln, t, rfl, ss, lo, wd, hn, hs, el, hss, nls, et, nts, h0, h1, h2, q⟩ := h
    have hu := hu_of hr
    refine ⟨_, (pss_cons (ps_set (i := 4) scLq.nd rfl (Or.inl rfl) (pe_call CP.ok (hr.mono (by omega)) rfl CP.nm CP.kp CP.bd .nil pass0 (pa_kons (pv 0) (pa_kons pe_int pa_nil))))
      (pss_cons (ps_if (PW.pt (pw_or (pt_cmpR op_eq (pv 3) pe_int (nomark _)) (pw_or1 (pt_cmpR op_lt (pv 4) pe_int (nomark _))))) (pss_one (ps_ret (pe_call CL.ok (hr.mono (by omega)) rfl CL.nm CL.kp CL.bd .nil pass0 (pa_kons (pv 0) (pa_kons (pv 1) (pa_kons (pv 2) (pa_kons (pe_ix ix_list (pe_lst (pa_kons pe_int (pa_kons pe_int (pa_kons pe_int (pa_kons pe_int pa_nil))))) (pv 3) (fun _ _ => rfl)) pa_nil))))))) pss_nil)
      (@pss_cons _ _ _ _ _ (@ps_set (i := 5) _ _ _ _ _ _ scLq.nd rfl (Or.inl rfl) (@pe_ix _ _ _ _ _ _ _ ix_list (@pe_lst _ _ _ _ (@pa_kons _ _ _ _ _ pe_str (@pa_kons _ _ _ _ _ pe_str (@pa_kons _ _ _ _ _ pe_str (@pa_kons _ _ _ _ _ pe_str pa_nil rfl) rfl) rfl) rfl)) (@pe_op _ _ _ _ _ _ _ _ op_sub (pv 4) pe_int) (fun _ _ => rfl)) (by rfl) (by first | exact .inl rfl | exact .inr rfl))
      (pss_one (ps_ret (pe_tup (pa_kons (pv 5) (pa_kons (pe_of (pec_compN rfl (pi_range1 rfl N.range (pa_kons (pe_ix ix_list (pe_lst (pa_kons pe_int (pa_kons pe_int (pa_kons pe_int (pa_kons pe_int pa_nil))))) (pe_op op_sub (pv 4) pe_int) (fun _ _ => rfl)) pa_nil)) rfl rfl (by show ∀ p ∈ _, CapN [Str.ofString "_law_window_here", Str.ofString "_law_state", Str.ofString "_law_names_here", Str.ofString "_law_deep"] p; decide) (by decide) rfl (by show ([Str.ofString "_law_k", Str.ofString "_law_window_here", Str.ofString "_law_state", Str.ofString "_law_names_here", Str.ofString "_law_deep"] : List Str).Nodup; decide) (.cons (i := 2) rfl (.inr (.inl rfl)) (by show (some NameKind.cell) ≠ some NameKind.local; decide) (.inl rfl) rfl (.cons (i := 0) rfl (.inr (.inl rfl)) (by show (some NameKind.cell) ≠ some NameKind.local; decide) (.inl rfl) rfl (.cons (i := 1) rfl (.inr (.inl rfl)) (by show (some NameKind.cell) ≠ some NameKind.local; decide) (.inl rfl) rfl (.cons (i := 3) rfl (.inr (.inl rfl)) (by show (some NameKind.cell) ≠ some NameKind.local; decide) (.inl rfl) rfl .nil)))) (fun C fp s H => pts_nil) (fun C fp s H => (pe_call CQ.ok (hr.mono (by omega)) rfl CQ.nm CQ.kp CQ.bd .nil pass0 (pa_kons (pv 2) (pa_kons (pv 3) (pa_kons (pv 1) (pa_kons (pe_op op_sub (pv 4) pe_int) pa_nil)))))))) pa_nil)))))))), ?_⟩
    refine rd_seq (rd_asg ⟨_, rfl, s, 8, rfl, hs, by decide, by decide, fun v H1 v0 v1 o1 hs1 => ?_⟩)
    dsimp only [gName, List.set_cons_zero, List.set_cons_succ]
    have eln := o1 _ _ el nls
    have ett := o1 _ _ et nts
    refine rd_seq (rd_ifB (decide ((n : Int) = 0) || decide (v < 4)) (fun Q hQ => ⟨_, rfl, rfl, _, rfl, ?_⟩) (fun _ => ?_) fun hc => rd_next ?_)
    · by_cases z : (n : Int) = 0
      · rw [decide_eq_true (congrArg V.int z)]
        rw [decide_eq_true z, Bool.true_or] at hQ
        exact iteT hQ
      · rw [decide_eq_false (fun y => z (V.int.inj y))]
        rw [decide_eq_false z, Bool.false_or] at hQ
        exact iteF ⟨_, rfl, _, _, rfl, rfl, _, rfl, hQ⟩
    · refine rd_ret ⟨_, rfl, _, rfl, _, rfl, by show 4 ≤ sizeLine; decide, fun l8 nl8 => ?_⟩
      obtain ⟨g2, e2⟩ := laid (o := .lst [V.int 8, V.int 3, V.int 2, V.int 2]) nl8
      have o2 := o1.trans (Off.grow g2)
      have hs2 := hs1.keep g2
      generalize upd H1 l8 _ = H2 at g2 e2 o2 hs2 ⊢
      obtain ⟨m, em, m1, m2⟩ := at8 hn
      refine ⟨_, rfl, l8, _, _, _, rfl, rfl, SqL.of e2, em, s, ln, t, m, rfl, ss, lo, wd, hs2, g2 _ _ eln, hss, nls, g2 _ _ ett, nts, h0, h1, h2, m1, m2, fun a l H3 okl na o3 hs3 hl => ?_⟩
      exact q a (.leaf l) H3 (ok_of_leaf okl) (hs2.free o2 na) (o2.trans o3) hs3 (nd_leaf.mpr (hl.keep (wo_sub (H0 := H) fun b hb => hs2.free o2 hb)))
    · rw [Bool.or_eq_false_iff] at hc
      have hv : 4 ≤ v := by have := of_decide_eq_false hc.2; omega
      have hn0 := of_decide_eq_false hc.1
      dsimp only
      obtain ⟨w, cnt, ew, ec, hb⟩ := at4 hv v1
      refine rd_seq (rd_asg ⟨by show 4 ≤ sizeLine; decide, fun l4 nl4 => ?_⟩)
      obtain ⟨g2, e2⟩ := laid (o := .lst (w4.map V.str)) nl4
      have o2 := o1.trans (Off.grow g2)
      have hs2 := hs1.keep g2
      refine ⟨_, rfl, _, _, rfl, rfl, l4, _, _, _, rfl, rfl, SqL.of e2, ew, ?_⟩
      dsimp only [gName, List.set_cons_zero, List.set_cons_succ]
      change tRet _ _ _ (upd H1 l4 (.lst (w4.map V.str)))
      generalize upd H1 l4 (.lst (w4.map V.str)) = H2 at g2 e2 o2 hs2 ⊢
      refine rd_ret ⟨_, rfl, rd_cons (rd_comp ⟨by show 4 ≤ sizeLine; decide, fun l5 nl5 => ?_⟩)⟩
      obtain ⟨g3, e3⟩ := laid (o := .lst [V.int 2, V.int 2, V.int 4, V.int 4]) nl5
      have o3 := o2.trans (Off.grow g3)
      have hs3 := hs2.keep g3
      generalize upd H2 l5 _ = H3 at g3 e3 o3 hs3 ⊢
      have el3 : H3 ln = some (.lst (ss.map V.str)) := o3 _ _ el nls
      have et3 : H3 t = some (.tup [.int lo, .int wd]) := o3 _ _ et nts
      obtain ⟨m, rfl⟩ : ∃ m, n = m + 1 := ⟨n - 1, by omega⟩
      have hcn : cnt = 2 ∨ cnt = 4 := hb.elim (fun z => .inl z.2) fun z => .inr z.2
      refine ⟨_, rfl, _, _, rfl, rfl, l5, _, _, _, rfl, rfl, SqL.of e3, ec, _, rfl, by omega, by omega, compB_nd (m := m) (cnt := cnt) hs3 (by omega) (fun i H4 R hi hs4 o4 hR => ?_) fun D as xs H4 nD o4 hs4 eD hp hxl hxs => ?_⟩
      · refine ⟨_, rfl, _, rfl, _, rfl, _, rfl, _, _, rfl, rfl, m, rfl, s, ln, t, ?_, ss, lo, wd, by omega, hs4, o4 _ _ el3 nls, hss, nls, o4 _ _ et3 nts, nts, h0, h1, h2, hR⟩
        rw [show ((m + 1 : Nat) : Int) - 1 = (m : Int) from by omega]; rfl
      · refine ⟨by show 2 ≤ sizeLine; decide, fun a na => ?_⟩
        have o5 := o3.trans o4
        have fa := hs4.free o5 na
        obtain ⟨g6, e6⟩ := laid (o := .tup [V.str w, V.ref D]) na
        have fD := hs3.free o3 nD
        refine q a (.brk w xs) _ ⟨by rw [hxl]; exact hb, hxs⟩ fa (o5.trans (Off.grow g6)) (hs4.keep g6) (BN.mk D as (by rw [wo_new fa]; exact e6) (by rw [wo_new fD]; exact g6 _ _ eD) (Paired.mono (fun a q0 h0 => NdAt.keep (Grow.trans (wo_sub (H0 := H) fun b hb => hs3.free o3 hb) (wo_grow fun b o _ e => g6 _ _ e)) h0) hp))
end
section
variable {P : Program} {w : World} {K : PySem.W.Frag} {mg : Str → Option Value} {base : Heap}
theorem lq_all {f f1 f2 : Addr} {fd : FuncData} (F : Fun K "_law_question" "_law_question" sLq f fd) (nq : mg "_law_question" = some (.ref f)) (bq : Binds K fd ["_law_state", "_law_names_here", "_law_window_here", "_law_deep"] []) (N : Free mg) {fd1 : FuncData} (CP : Cal P w K mg base "_law_pull" 2 ["_law_state", "_law_many"] spPull f1 fd1) {fd2 : FuncData} (CL : Cal P w K mg base "_law_leaf" 4 ["_law_state", "_law_names_here", "_law_window_here", "_law_most"] spLeaf f2 fd2) : ∀ n, FnOk P w K mg base CX0 (n + 5) f fd ["_law_state", "_law_names_here", "_law_window_here", "_law_deep"] (spLq n)
  | 0 => ok_lq F N CP CL ⟨FnOk.no (fun vs H Q E h => by obtain ⟨m, hm, _⟩ := h; cases hm), nq, F.kp, bq⟩
  | n + 1 => ok_lq F N CP CL ⟨FnOk.imp (lq_all F nq bq N CP CL n) (fun vs H Q E h => by obtain ⟨m, hm, h⟩ := h; cases hm; exact h), nq, F.kp, bq⟩
theorem ok_lq3 {f f1 f2 : Addr} {fd : FuncData} (F : Fun K "_law_question" "_law_question" sLq f fd) (nq : mg "_law_question" = some (.ref f)) (bq : Binds K fd ["_law_state", "_law_names_here", "_law_window_here", "_law_deep"] []) (N : Free mg) {fd1 : FuncData} (CP : Cal P w K mg base "_law_pull" 2 ["_law_state", "_law_many"] spPull f1 fd1) {fd2 : FuncData} (CL : Cal P w K mg base "_law_leaf" 4 ["_law_state", "_law_names_here", "_law_window_here", "_law_most"] spLeaf f2 fd2) : FnOk P w K mg base CX0 8 f fd ["_law_state", "_law_names_here", "_law_window_here", "_law_deep"] (spLq 3) := lq_all F nq bq N CP CL 3
end
end Mine
namespace Mine
open PySem L2
abbrev sLw : Stmt := top 56
theorem brW_of {w : Str} {m : Nat} (h : (w ∈ rckW ∧ m = 2) ∨ (w ∈ chcW ∧ m = 4)) : w ∈ w4 := by
  have a : ∀ w ∈ rckW, w ∈ w4 := by decide +kernel
  have b : ∀ w ∈ chcW, w ∈ w4 := by decide +kernel
  exact h.elim (fun z => a w z.1) fun z => b w z.1
theorem leaf_not {p : Addr} {l : Lf} (ok : LfOk l) : ∃ w r, lfV p l = .str w :: r ∧ w ∉ w4 ∧ wHead l = w ∧ r = (lfV p l).tail := by
  have g : ∀ w ∈ gthW, w ∉ w4 := by decide +kernel
  cases l with
  | gth w ks f0 l0 => exact ⟨w, _, rfl, g w ok.1, rfl, rfl⟩
  | num => exact ⟨_, _, rfl, by decide +kernel, rfl, rfl⟩
  | val => exact ⟨_, _, rfl, by decide +kernel, rfl, rfl⟩
  | snc => exact ⟨_, _, rfl, by decide +kernel, rfl, rfl⟩
  | prt => exact ⟨_, _, rfl, by decide +kernel, rfl, rfl⟩
  | chg => exact ⟨_, _, rfl, by decide +kernel, rfl, rfl⟩
def ksOf : Lf → List Str
  | .gth _ ks _ _ => ks
  | _ => []
def gW (ks : List Str) : V → V
  | .int i => .str (si i)
  | .ref _ => .str (jc ks)
  | v => v
theorem tail_gW (p : Addr) (l : Lf) : (lfV p l).tail.map (gW (ksOf l)) = (wTail l).map V.str := by cases l <;> rfl
theorem tail_len (p : Addr) (l : Lf) : (lfV p l).tail.length ≤ 4 := by cases l <;> exact Nat.le_of_ble_eq_true rfl
theorem Day2.bf {f l : Int} (h : Day2 f l) : Big f ∧ Big l := by
  obtain ⟨h1, h2, h3⟩ := h
  unfold Big
  omega
theorem lf_item {p : Addr} {l : Lf} {x : V} (ok : LfOk l) (h : x ∈ (lfV p l).tail) : (∃ z, x = .str z) ∨ (∃ i, x = .int i ∧ Big i) ∨ (x = .ref p ∧ ∃ w ks f0 l0, l = .gth w ks f0 l0) := by
  have cs : ∀ {z : Str}, x = .str z → (∃ z, x = .str z) ∨ (∃ i, x = .int i ∧ Big i) ∨ (x = .ref p ∧ ∃ w ks f0 l0, l = .gth w ks f0 l0) := fun e => .inl ⟨_, e⟩
  have ci : ∀ {z : Int}, x = .int z → Big z → (∃ z, x = .str z) ∨ (∃ i, x = .int i ∧ Big i) ∨ (x = .ref p ∧ ∃ w ks f0 l0, l = .gth w ks f0 l0) := fun e b => .inr (.inl ⟨_, e, b⟩)
  cases l with
  | num z =>
    exact ci (List.mem_singleton.mp (show x ∈ [V.int z] from h)) ok
  | val k d =>
    rcases List.mem_cons.mp (show x ∈ [V.str k, V.int d] from h) with e | h
    · exact cs e
    · exact ci (List.mem_singleton.mp h) ⟨by have := ok.2.1; omega, by have := ok.2.2; omega⟩
  | gth w ks f0 l0 =>
    rcases List.mem_cons.mp (show x ∈ [V.ref p, V.int f0, V.int l0] from h) with e | h
    · exact .inr (.inr ⟨e, w, ks, f0, l0, rfl⟩)
    · rcases List.mem_cons.mp h with e | h
      · exact ci e ok.2.2.bf.1
      · exact ci (List.mem_singleton.mp h) ok.2.2.bf.2
  | snc k b0 f0 l0 =>
    rcases List.mem_cons.mp (show x ∈ [V.str k, V.int b0, V.int f0, V.int l0] from h) with e | h
    · exact cs e
    · rcases List.mem_cons.mp h with e | h
      · exact ci e ok.2.1
      · rcases List.mem_cons.mp h with e | h
        · exact ci e ok.2.2.bf.1
        · exact ci (List.mem_singleton.mp h) ok.2.2.bf.2
  | prt k k2 f0 l0 =>
    rcases List.mem_cons.mp (show x ∈ [V.str k, V.str k2, V.int f0, V.int l0] from h) with e | h
    · exact cs e
    · rcases List.mem_cons.mp h with e | h
      · exact cs e
      · rcases List.mem_cons.mp h with e | h
        · exact ci e ok.2.2.bf.1
        · exact ci (List.mem_singleton.mp h) ok.2.2.bf.2
  | chg r0 k f0 l0 =>
    rcases List.mem_cons.mp (show x ∈ [V.int r0, V.str k, V.int f0, V.int l0] from h) with e | h
    · exact ci e ⟨by have := ok.1.1; omega, by have := ok.1.2; omega⟩
    · rcases List.mem_cons.mp h with e | h
      · exact cs e
      · rcases List.mem_cons.mp h with e | h
        · exact ci e ok.2.2.bf.1
        · exact ci (List.mem_singleton.mp h) ok.2.2.bf.2
inductive LwI (n : Nat) (nd : Nd) (a : Addr) (H : Hp) (Q : VK) : Prop
  | mk (ok : NdOk n nd) (hn : n ≤ 3) (h : NdAt n nd H a) (q : ∀ p H', H p = none → Grow H H' → H' p = some (.lst ((wordsN n nd).map V.str)) → Q (.ref p) H') : LwI n nd a H Q
def spLw (n : Nat) : Sp := fun vs H Q _ => ∃ (a : Addr) (nd : Nd), vs = [.ref a] ∧ LwI n nd a H Q
def spLwP (n : Nat) : Sp := fun vs H Q E => ∃ m, n = m + 1 ∧ spLw m vs H Q E
inductive LwV (H : Hp) (a : Addr) (w : Str) (m : Nat) (xs : List Nd) (i : Nat) (σ : St) (H2 : Hp) : Prop
  | mk (p : Addr) (v2 : Option V) (h1 : σ = [some (.ref a), some (.ref p), v2]) (h2 : H p = none) (h3 : Grow H H2) (h4 : H2 p = some (.lst ((w :: (xs.take i).flatMap (kidW m)).map V.str))) : LwV H a w m xs i σ H2
theorem kid_len {n : Nat} {q : Nd} (h : NdOk n q) (hn : n ≤ 3) : (kidW n q).length ≤ 511 := by
  have := words_len h
  have h2 := Wn_le hn
  show (opS :: (wordsN n q ++ [clS])).length ≤ 511
  rw [List.length_cons, List.length_append, List.length_singleton]
  omega
theorem big_line {k : Nat} (h : k ≤ 100000) : k ≤ sizeLine := Nat.le_trans h (by decide)
theorem at_hd (x : V) (r : List V) : atI (x :: r) 0 = some x := atI_nat (show (x :: r)[0]? = some x from rfl)
theorem cut_ix (r : List V) : HT.sIx (r.length + 1) 0 (some 1) = 1 := by
  rw [show (some (1 : Int)) = some ((1 : Nat) : Int) from rfl, HT.sIx_nat]
  exact Nat.min_eq_left (by omega)
theorem cut_tl (x : V) (r : List V) : cutV (x :: r) (some 1) none = r := by
  unfold cutV
  rw [List.length_cons, cut_ix]
  show (r.take (r.length + 1 - 1)) = r
  rw [Nat.add_sub_cancel, List.take_length]
section
variable {P : Program} {w : World} {K : PySem.W.Frag} {mg : Str → Option Value} {base : Heap}
theorem scLw : FnScope ["_law_node", "_law_found", "_law_part"] ["_law_node"] (defScope sLw) := ⟨rfl, rfl, rfl, by decide +kernel, rfl, by decide +kernel, by decide +kernel⟩
theorem ok_lw {n : Nat} {f f1 : Addr} {fd : FuncData} (F : Fun K "_law_words" "_law_words" sLw f fd) (N : Free mg) {fd1 : FuncData} (CW : Cal P w K mg base "_law_words" n ["_law_node"] (spLwP n) f1 fd1) : FnOk P w K mg base CX0 (n + 1) f fd ["_law_node"] (spLw n) := by
  refine F.ok (k := n) scLw (fun vs H Q E h => ?_) (fun cdv A outer s H vs Q E hr h => ?_)
  · obtain ⟨a, nd, rfl, _⟩ := h
    rfl
  · obtain ⟨a, nd, rfl, ok, hn, h, q⟩ := h
    have hu := hu_of hr
    refine ⟨_, (pss_cons (ps_if (pt_cmpR op_in_seq (pe_ix ix_tup (pv 0) pe_int (fun _ _ => rfl)) (pe_tup (pa_kons pe_str (pa_kons pe_str (pa_kons pe_str (pa_kons pe_str pa_nil))))) (by with_unfolding_all rfl)) (pss_cons (ps_set (i := 1) scLw.nd rfl (Or.inl rfl) (pe_lst (pa_kons (pe_ix ix_tup (pv 0) pe_int (fun _ _ => rfl)) pa_nil)))
      (pss_cons (ps_for PassesOwn.never rfl (pi_list (pe_ix ix_tup (pv 0) pe_int (fun _ _ => rfl))) (pg_name (i := 2) scLw.nd rfl (Or.inl rfl))
      (pss_one (ps_set (i := 1) scLw.nd rfl (Or.inl rfl) (pe_op op_cat (pe_op op_cat (pe_op op_cat (pv 1) (pe_lst (pa_kons pe_str pa_nil))) (pe_call CW.ok (hr.mono (by omega)) rfl CW.nm CW.kp CW.bd .nil pass0 (pa_kons (pv 2) pa_nil))) (pe_lst (pa_kons pe_str pa_nil))))))
      (pss_one (ps_ret (pv 1))))) pss_nil)
      (pss_one (ps_ret (pe_op op_cat (pe_lst (pa_kons (pe_ix ix_tup (pv 0) pe_int (fun _ _ => rfl)) pa_nil)) (pe_of (pec_compN rfl (pi_tup (pe_slice sl_tup (pv 0) (po_some pe_int) po_none)) rfl rfl (by show ∀ p ∈ _, CapN [] p; decide) (by decide) rfl (by show ([Str.ofString "_law_one"] : List Str).Nodup; decide) .nil (fun C fp s H => pts_nil) (fun C fp s H => (pe_ifExp (pt_val (pe_callB (r := rIs K) call_isinst (by rfl) N.isinstance PyProof.Rows.Boot.«isinstance» (pa_kons (pv 0) (pa_kons (pe_bltn (v := .ty "list") (by rfl) N.list PyProof.Rows.Boot.«list» rfl) pa_nil)))) (pe_bmK (K := K) rfl PySem.F.plainAttrs_str PySem.F.slot_str_join PySem.F.type_str_join mt_join pe_str (pa_kons (pv 0) pa_nil)) (pe_callTy call_strA (by rfl) N.str PyProof.Rows.Boot.«str» (pa_kons (pv 0) pa_nil)))))))))), ?_⟩
    cases nd with
    | leaf l =>
      have okl := ok_leaf ok
      obtain ⟨pk, ea, hk⟩ := nd_leaf.mp h
      obtain ⟨w, r, ev, nw, ew, er⟩ := leaf_not (p := pk) okl
      have ea' := ea
      rw [ev] at ea'
      refine rd_seq (rd_if ⟨_, rfl, a, _, 0, _, rfl, rfl, SqT.of ea', at_hd _ _, by show 4 ≤ sizeLine; decide, fun tp ntp => ?_⟩)
      obtain ⟨g1, e1⟩ := laid (o := .tup (w4.map V.str)) ntp
      change rIn _ _ _ _ (upd H tp (.tup (w4.map V.str))) _
      generalize upd H tp _ = H1 at g1 e1 ⊢
      refine ⟨tp, _, rfl, .inr (SqT.of e1), rfl, flat_strs _, ?_⟩
      rw [if_neg Bool.false_ne_true, inV_str, decide_eq_false nw]
      refine ⟨_, rfl, iteF (rd_next ?_)⟩
      dsimp only
      refine rd_ret ⟨_, rfl, a, _, 0, _, rfl, rfl, SqT.of (g1 _ _ ea'), at_hd _ _, by show 1 ≤ sizeLine; decide, fun p1 np1 => ?_⟩
      obtain ⟨g2, e2⟩ := laid (o := .lst [V.str w]) np1
      generalize upd H1 p1 _ = H2 at g2 e2 ⊢
      have g12 := g1.trans g2
      refine rd_comp ⟨_, rfl, _, rfl, a, _, rfl, SqT.of (g12 _ _ ea'), (fun z => by rw [List.length_cons, cut_ix] at z; exact absurd z.1 (by decide)), fun t2 nt2 => ?_⟩
      obtain ⟨g3, e3⟩ := laid (o := .tup (cutV (.str w :: r) (some 1) none)) nt2
      generalize upd H2 t2 _ = H3 at g3 e3 ⊢
      have g13 := g12.trans g3
      have ec : cutV (.str w :: r) (some 1) none = (lfV pk l).tail := by rw [er]; exact cut_tl _ _
      rw [ec] at e3
      refine ⟨t2, rfl, ⟨_, SqT.of e3⟩, compB_tupM (g := gW (ksOf l)) (Nat.lt_of_le_of_lt (tail_len pk l) (by decide)) e3 (fun x H4 R hx g4 hR => ?_) fun D nD => ?_⟩
      · have g14 := g13.trans g4
        rcases lf_item okl hx with ⟨z, rfl⟩ | ⟨i, rfl, hb⟩ | ⟨rfl, w', ks, f0, l0, rfl⟩
        · exact ⟨_, rfl, _, "list", _, false, rfl, .str z, by rfl, _, rfl, iteF ⟨_, rfl, .str z rfl hR⟩⟩
        · exact ⟨_, rfl, _, "list", _, false, rfl, .int i, by rfl, _, rfl, iteF ⟨_, rfl, .int i rfl (log_big hb.1 hb.2) hR⟩⟩
        · have ek := g14 _ _ (show H pk = some (.lst (ks.map V.str)) from hk)
          obtain ⟨hg, ⟨k1, k8, _, hks⟩, _⟩ := id okl
          refine ⟨_, rfl, _, "list", _, true, rfl, .lst ek, by rfl, _, rfl, iteT ⟨rfl, _, rfl, _, pk, ks, rfl, rfl, ek, ?_, hR⟩⟩
          have := sum_le 8 ks fun w hw => (nm_of (hks w hw)).2.1
          rw [show (Str.ofString ",").length = 1 from by decide +kernel]
          omega
      · rw [tail_gW]
        obtain ⟨g4, e4⟩ := laid (o := .lst ((wTail l).map V.str)) nD
        refine ⟨p1, D, _, _, rfl, rfl, g4 _ _ (g3 _ _ e2), e4, ?_, fun p3 np3 => ?_⟩
        · rw [List.length_map]
          have : (wTail l).length ≤ 5 := by
            have := (lf_len l).2
            rw [w_ht l, List.length_cons] at this
            omega
          exact big_line (show 1 + _ ≤ 100000 by omega)
        obtain ⟨g5, e5⟩ := laid (o := .lst ([V.str w] ++ (wTail l).map V.str)) np3
        refine q p3 _ (free_of (g13.trans g4) np3) ((g13.trans g4).trans g5) ?_
        rw [e5, wN_leaf, w_ht l, ew]
        rfl
    | brk w xs =>
      cases n with
      | zero => exact (show False from ok).elim
      | succ m =>
        obtain ⟨li, as, ea, eli, hp⟩ : BN w xs (fun a q => NdAt m q H a) H a := h
        obtain ⟨hw, hxs⟩ : _ ∧ _ := id ok
        have hl4 := brk_len hw
        have hal := paired_len hp
        refine rd_seq (rd_if ⟨_, rfl, a, _, 0, _, rfl, rfl, SqT.of ea, rfl, by show 4 ≤ sizeLine; decide, fun tp ntp => ?_⟩)
        obtain ⟨g1, e1⟩ := laid (o := .tup (w4.map V.str)) ntp
        change rIn _ _ _ _ (upd H tp (.tup (w4.map V.str))) _
        generalize upd H tp _ = H1 at g1 e1 ⊢
        refine ⟨tp, _, rfl, .inr (SqT.of e1), rfl, flat_strs _, ?_⟩
        rw [if_neg Bool.false_ne_true, inV_str, decide_eq_true (brW_of hw)]
        refine ⟨_, rfl, iteT ?_⟩
        refine rd_seq (rd_asg ⟨_, rfl, a, _, 0, _, rfl, rfl, SqT.of (g1 _ _ ea), rfl, by show 1 ≤ sizeLine; decide, fun p1 np1 => ?_⟩)
        dsimp only [gName, List.set_cons_zero, List.set_cons_succ]
        obtain ⟨g2, e2⟩ := laid (o := .lst [V.str w]) np1
        generalize upd H1 p1 _ = H2 at g2 e2 ⊢
        have g12 := g1.trans g2
        refine rd_seq ⟨_, rfl, a, _, 1, _, rfl, rfl, SqT.of (g12 _ _ ea), rfl, li, rfl, ⟨_, SqL.of (g12 _ _ eli)⟩, for_list (K := K) (a := li) (xs := as.map V.ref) (LwV H a w m xs) ⟨p1, none, rfl, free_of g1 np1, g12, e2⟩ (fun i σ H3 _ hh => ?_) (fun i v σ H3 hi hh => ?_) fun σ H3 hh => ?_⟩
        · obtain ⟨p, v2, rfl, _, g3, _⟩ := hh
          exact SqL.of (g3 _ _ eli)
        · obtain ⟨p, v2, rfl, np, g3, e3⟩ := hh
          rw [List.getElem?_map] at hi
          obtain ⟨b0, hb0, rfl⟩ := Option.map_eq_some_iff.mp hi
          obtain ⟨q0, hq0, hqa⟩ := paired_get hp hb0
          have hqx := hxs q0 (List.mem_of_getElem? hq0)
          have hil := (List.getElem?_eq_some_iff.mp hq0).1
          have et : xs.take (i + 1) = xs.take i ++ [q0] := by rw [List.take_add_one, hq0]; rfl
          dsimp only [gName, List.set_cons_zero, List.set_cons_succ]
          have hbl := flat_len (g := kidW m) (m := 511) (xs.take i) fun q hq => kid_len (hxs q (List.mem_of_mem_take hq)) (by omega)
          rw [List.length_take] at hbl
          have hkl := kid_len hqx (show m ≤ 3 by omega)
          have hwl : (wordsN m q0).length ≤ 509 := Nat.le_trans (words_len hqx) (Wn_le (by omega))
          refine rd_asg ⟨_, rfl, by show 1 ≤ sizeLine; decide, fun p2 np2 => ?_⟩
          obtain ⟨g4, e4⟩ := laid (o := .lst [V.str opS]) np2
          change rCat _ _ (upd H3 p2 (.lst [V.str opS])) _
          generalize upd H3 p2 _ = H4 at g4 e4 ⊢
          have e3' := g4 _ _ e3
          refine ⟨p, p2, _, _, rfl, rfl, e3', e4, ?_, fun p3 np3 => ?_⟩
          · rw [List.length_map, List.length_cons]
            exact big_line (show _ + 1 + 1 ≤ 100000 by omega)
          obtain ⟨g5, e5⟩ := laid (o := .lst ((w :: (xs.take i).flatMap (kidW m)).map V.str ++ [V.str opS])) np3
          generalize upd H4 p3 _ = H5 at g5 e5 ⊢
          have g35 := (g3.trans g4).trans g5
          refine ⟨_, rfl, m, rfl, b0, q0, rfl, hqx, by omega, NdAt.keep g35 hqa, fun p4 H6 np4 g6 e6 => ?_⟩
          refine ⟨p3, p4, _, _, rfl, rfl, g6 _ _ e5, e6, ?_, fun p5 np5 => ?_⟩
          · rw [List.length_append, List.length_map, List.length_map, List.length_cons, List.length_singleton]
            exact big_line (show _ + 1 + 1 + _ ≤ 100000 by omega)
          obtain ⟨g7, e7⟩ := laid (o := .lst ((w :: (xs.take i).flatMap (kidW m)).map V.str ++ [V.str opS] ++ (wordsN m q0).map V.str)) np5
          generalize upd H6 p5 _ = H7 at g7 e7 ⊢
          refine ⟨by show 1 ≤ sizeLine; decide, fun p6 np6 => ?_⟩
          obtain ⟨g8, e8⟩ := laid (o := .lst [V.str clS]) np6
          change rCat _ _ (upd H7 p6 (.lst [V.str clS])) _
          generalize upd H7 p6 _ = H8 at g8 e8 ⊢
          have e7' := g8 _ _ e7
          refine ⟨p5, p6, _, _, rfl, rfl, e7', e8, ?_, fun p9 np9 => ?_⟩
          · rw [List.length_append, List.length_append, List.length_map, List.length_map, List.length_cons, List.length_singleton]
            exact big_line (show _ + 1 + 1 + _ + 1 ≤ 100000 by omega)
          obtain ⟨g9, e9⟩ := laid (o := .lst ((w :: (xs.take i).flatMap (kidW m)).map V.str ++ [V.str opS] ++ (wordsN m q0).map V.str ++ [V.str clS])) np9
          have gg := ((g35.trans g6).trans g7).trans g8
          refine ⟨p9, _, rfl, free_of gg np9, gg.trans g9, ?_⟩
          show upd H8 p9 _ p9 = _
          rw [e9, et, List.flatMap_append, List.flatMap_cons, List.flatMap_nil, List.append_nil]
          show some (HO.lst (V.str w :: _ ++ _ ++ _ ++ _)) = some (HO.lst (V.str w :: ((xs.take i).flatMap (kidW m) ++ (opS :: (wordsN m q0 ++ [clS]))).map V.str))
          rw [List.map_append, List.map_cons, List.map_append, List.append_assoc, List.append_assoc]
          rfl
        · obtain ⟨p, v2, rfl, np, g3, e3⟩ := hh
          rw [List.length_map, hal, List.take_length] at e3
          dsimp only
          exact rd_ret ⟨_, rfl, q p H3 np g3 e3⟩
end
section
variable {P : Program} {w : World} {K : PySem.W.Frag} {mg : Str → Option Value} {base : Heap}
def spLwE : Sp := fun vs H Q E => ∃ n, n ≤ 3 ∧ spLw n vs H Q E
theorem lw_all {f : Addr} {fd : FuncData} (F : Fun K "_law_words" "_law_words" sLw f fd) (nq : mg "_law_words" = some (.ref f)) (bq : Binds K fd ["_law_node"] []) (N : Free mg) : ∀ n, FnOk P w K mg base CX0 (n + 1) f fd ["_law_node"] (spLw n)
  | 0 => ok_lw F N ⟨FnOk.no (fun vs H Q E h => by obtain ⟨m, hm, _⟩ := h; cases hm), nq, F.kp, bq⟩
  | n + 1 => ok_lw F N ⟨FnOk.imp (lw_all F nq bq N n) (fun vs H Q E h => by obtain ⟨m, hm, h⟩ := h; cases hm; exact h), nq, F.kp, bq⟩
theorem ok_lwE {f : Addr} {fd : FuncData} (F : Fun K "_law_words" "_law_words" sLw f fd) (nq : mg "_law_words" = some (.ref f)) (bq : Binds K fd ["_law_node"] []) (N : Free mg) : FnOk P w K mg base CX0 4 f fd ["_law_node"] spLwE := FnOk.ex (sp := spLw) (N := 3) fun n hn => FnOk.mono (lw_all F nq bq N n) (by omega)
end
end Mine
namespace Mine
open PySem L2
abbrev sLdp : Stmt := top 58
abbrev sLn : Stmt := top 59
abbrev sLft : Stmt := top 57
def scS (st : Int × Int) (w : Str) : Int × Int := (if st.2 + (if w = opS then 1 else 0) - (if w = clS then 1 else 0) > st.1 then st.2 + (if w = opS then 1 else 0) - (if w = clS then 1 else 0) else st.1, st.2 + (if w = opS then 1 else 0) - (if w = clS then 1 else 0))
def scL (st : Int × Int) (ws : List Str) : Int × Int := ws.foldl scS st
theorem sc_plain {m o : Int} {w : Str} (h : o ≤ m) (hw : Wd w) : scS (m, o) w = (m, o) := by
  have h1 : w ≠ opS := hw.not (c := 40) (.inl rfl)
  have h2 : w ≠ clS := hw.not (c := 41) (.inr rfl)
  unfold scS
  rw [if_neg h1, if_neg h2]
  dsimp only
  rw [Int.add_zero, Int.sub_zero, if_neg (by omega)]
theorem sc_op (m o : Int) : scS (m, o) opS = (if o + 1 > m then o + 1 else m, o + 1) := by
  unfold scS
  rw [if_pos rfl, if_neg (show opS ≠ clS from by decide +kernel)]
  dsimp only
  rw [Int.sub_zero]
theorem sc_cl {m o : Int} (h : o ≤ m) : scS (m, o + 1) clS = (m, o) := by
  unfold scS
  rw [if_neg (show clS ≠ opS from by decide +kernel), if_pos rfl]
  dsimp only
  rw [show o + 1 + 0 - 1 = o from by omega, if_neg (by omega)]
theorem sc_plains {m o : Int} (h : o ≤ m) : ∀ ws : List Str, (∀ w ∈ ws, Wd w) → scL (m, o) ws = (m, o)
  | [], _ => rfl
  | w :: ws, hw => by
    show scL (scS (m, o) w) ws = _
    rw [sc_plain h (hw w List.mem_cons_self)]
    exact sc_plains h ws fun x hx => hw x (List.mem_cons_of_mem _ hx)
theorem scL_app (st : Int × Int) (us vs : List Str) : scL st (us ++ vs) = scL (scL st us) vs := by
  unfold scL
  rw [List.foldl_append]
def mx (a b : Int) : Int := if b > a then b else a
theorem mx_ge (a b : Int) : a ≤ mx a b ∧ b ≤ mx a b := by unfold mx; split <;> omega
theorem mx_le {a b c : Int} (h1 : a ≤ c) (h2 : b ≤ c) : mx a b ≤ c := by unfold mx; split <;> omega
theorem top_mem : ∀ (ns : List Int) (a : Int), ns.foldl (fun a b => if b > a then b else a) a = a ∨ ns.foldl (fun a b => if b > a then b else a) a ∈ ns
  | [], a => .inl rfl
  | n :: ns, a => by
    rcases top_mem ns (if n > a then n else a) with h | h
    · show ns.foldl _ (if n > a then n else a) = a ∨ _
      by_cases z : n > a
      · rw [if_pos z] at h
        exact .inr (by show ns.foldl _ (if n > a then n else a) ∈ _; rw [if_pos z, h]; exact List.mem_cons_self)
      · rw [if_neg z] at h ⊢
        exact .inl h
    · exact .inr (List.mem_cons_of_mem _ h)
theorem sc_kids {n : Nat} (ih : ∀ (q : Nd) (m o : Int), NdOk n q → o ≤ m → scL (m, o) (wordsN n q) = (mx m (o + depthN n q), o)) : ∀ (xs : List Nd) (m o : Int), (∀ x ∈ xs, NdOk n x) → o ≤ m → scL (m, o) (xs.flatMap (kidW n)) = ((xs.map fun q => o + 1 + depthN n q).foldl (fun a b => if b > a then b else a) m, o)
  | [], m, o, _, _ => rfl
  | q :: xs, m, o, hx, h => by
    have hd := depth_ge n q
    rw [List.flatMap_cons, scL_app]
    have e : scL (m, o) (kidW n q) = (mx m (o + 1 + depthN n q), o) := by
      show scL (scS (m, o) opS) (wordsN n q ++ [clS]) = _
      rw [sc_op, scL_app]
      have h1 : o + 1 ≤ (if o + 1 > m then o + 1 else m) := (mx_ge m (o + 1)).2
      rw [ih q _ _ (hx q List.mem_cons_self) h1]
      show scS _ clS = _
      have h2 := mx_ge (if o + 1 > m then o + 1 else m) (o + 1 + depthN n q)
      rw [sc_cl (by omega)]
      congr 1
      show mx (mx m (o + 1)) (o + 1 + depthN n q) = mx m (o + 1 + depthN n q)
      unfold mx
      split <;> split <;> omega
    rw [e]
    have h3 := mx_ge m (o + 1 + depthN n q)
    rw [sc_kids ih xs _ o (fun x h => hx x (List.mem_cons_of_mem _ h)) (by omega)]
    rfl
theorem sc_words : ∀ (n : Nat) (q : Nd) (m o : Int), NdOk n q → o ≤ m → scL (m, o) (wordsN n q) = (mx m (o + depthN n q), o)
  | n, .leaf l, m, o, ok, h => by
    rw [wN_leaf, dN_leaf, sc_plains h _ (lf_wd (ok_leaf ok))]
    unfold mx
    rw [if_neg (by omega)]
  | 0, .brk _ _, _, _, ok, _ => (show False from ok).elim
  | n + 1, .brk w xs, m, o, ok, h => by
    obtain ⟨hw, hxs⟩ : _ ∧ _ := ok
    have hl := brk_len hw
    show scL (scS (m, o) w) (xs.flatMap (kidW n)) = _
    rw [sc_plain h (brk_wd hw), sc_kids (fun q m o => sc_words n q m o) xs m o hxs h]
    congr 1
    show _ = mx m (o + (1 + topI (xs.map (depthN n))))
    refine Int.le_antisymm (topF_le _ _ _ (mx_ge _ _).1 fun x hx => ?_) (mx_le (topF_ge _ _).1 ?_)
    · obtain ⟨q, hq, rfl⟩ := List.mem_map.mp hx
      have := (topF_ge (xs.map (depthN n)) 0).2 _ (List.mem_map_of_mem hq)
      have h2 := (mx_ge m (o + (1 + topI (xs.map (depthN n))))).2
      unfold topI at h2 ⊢
      omega
    · obtain ⟨q, hq, hm⟩ : ∃ q ∈ xs, topI (xs.map (depthN n)) ≤ depthN n q := by
        rcases top_mem (xs.map (depthN n)) 0 with z | z
        · cases xs with
          | nil => exact absurd hl.1 (by decide)
          | cons q r => exact ⟨q, List.mem_cons_self, by rw [show topI _ = 0 from z]; exact depth_ge n q⟩
        · obtain ⟨q, hq, e⟩ := List.mem_map.mp z
          exact ⟨q, hq, Int.le_of_eq e.symm⟩
      have := (topF_ge (xs.map fun q => o + 1 + depthN n q) m).2 _ (List.mem_map_of_mem hq)
      omega
theorem sc_depth {n : Nat} {q : Nd} (ok : NdOk n q) : (scL (0, 0) (wordsN n q)).1 = depthN n q := by
  rw [sc_words n q 0 0 ok (Int.le_refl _)]
  have := depth_ge n q
  show mx 0 (0 + depthN n q) = _
  unfold mx
  split <;> omega
def spLd (K : PySem.W.Frag) : Sp := fun vs H Q _ => ∃ (p : Addr) (ws : List Str), vs = [.ref p] ∧ H p = some (.lst (ws.map V.str)) ∧ Q (.int (scL (0, 0) ws).1) H
theorem take_fold (ws : List Str) (i : Nat) {w : Str} (h : ws[i]? = some w) (st : Int × Int) : scL st (ws.take (i + 1)) = scS (scL st (ws.take i)) w := by
  rw [List.take_add_one, h]
  exact scL_app st _ [w]
section
variable {P : Program} {w : World} {K : PySem.W.Frag} {mg : Str → Option Value} {base : Heap}
theorem scLdp : FnScope ["_law_words_here", "_law_most", "_law_open_now", "_law_word"] ["_law_words_here"] (defScope sLdp) := ⟨rfl, rfl, rfl, by decide +kernel, rfl, by decide +kernel, by decide +kernel⟩
theorem ok_ldp {f : Addr} {fd : FuncData} (F : Fun K "_law_depth" "_law_depth" sLdp f fd) (N : Free mg) : FnOk P w K mg base CX0 1 f fd ["_law_words_here"] (spLd K) := by
  refine F.ok (k := 0) scLdp (fun vs H Q E h => ?_) (fun cdv A outer s H vs Q E hr h => ?_)
  · obtain ⟨p, ws, rfl, _⟩ := h
    rfl
  · obtain ⟨p, ws, rfl, hp, q⟩ := h
    have hu := hu_of hr
    refine ⟨_, (pss_cons (ps_set (i := 1) scLdp.nd rfl (Or.inl rfl) pe_int)
      (pss_cons (ps_set (i := 2) scLdp.nd rfl (Or.inl rfl) pe_int)
      (pss_cons (ps_for PassesOwn.never rfl (pi_list (pv 0)) (pg_name (i := 3) scLdp.nd rfl (Or.inl rfl))
      (pss_cons (ps_set (i := 2) scLdp.nd rfl (Or.inl rfl) (pe_op op_sub (pe_op op_add (pv 2) (pe_callTy call_int1 (by rfl) N.int PyProof.Rows.Boot.«int» (pa_kons (pe_cmpR op_eq (pv 3) pe_str (nomark _)) pa_nil))) (pe_callTy call_int1 (by rfl) N.int PyProof.Rows.Boot.«int» (pa_kons (pe_cmpR op_eq (pv 3) pe_str (nomark _)) pa_nil))))
      (pss_one (ps_set (i := 1) scLdp.nd rfl (Or.inl rfl) (pe_callB (call_max2 rfl) (by rfl) N.max PyProof.Rows.Boot.«max» (pa_kons (pv 1) (pa_kons (pv 2) pa_nil)))))))
      (pss_one (ps_ret (pv 1)))))), ?_⟩
    refine rd_seq (rd_asg ?_)
    dsimp only [gName, List.set_cons_zero, List.set_cons_succ]
    refine rd_seq (rd_asg ?_)
    dsimp only [gName, List.set_cons_zero, List.set_cons_succ]
    refine rd_seq ⟨_, rfl, p, rfl, ⟨_, SqL.of hp⟩, for_list (K := K) (a := p) (xs := ws.map V.str) (fun i σ H2 => H2 = H ∧ ∃ v3, σ = [some (.ref p), some (.int (scL (0, 0) (ws.take i)).1), some (.int (scL (0, 0) (ws.take i)).2), v3]) ⟨rfl, none, rfl⟩ (fun i σ H2 _ hh => ?_) (fun i v σ H2 hi hh => ?_) fun σ H2 hh => ?_⟩
    · obtain ⟨rfl, v3, rfl⟩ := hh
      exact SqL.of hp
    · obtain ⟨rfl, v3, rfl⟩ := hh
      rw [List.getElem?_map] at hi
      obtain ⟨w0, hw, rfl⟩ := Option.map_eq_some_iff.mp hi
      have et := take_fold ws i hw (0, 0)
      generalize scL (0, 0) (ws.take i) = st at et
      obtain ⟨mo, op⟩ := st
      dsimp only [gName, List.set_cons_zero, List.set_cons_succ]
      have e1 : (if decide (V.str w0 = V.str opS) = true then (1 : Int) else 0) = if w0 = opS then 1 else 0 := by
        by_cases z : w0 = opS
        · rw [if_pos z, if_pos (decide_eq_true (congrArg V.str z))]
        · rw [if_neg z, if_neg (fun y => z (V.str.inj (of_decide_eq_true y)))]
      have e2 : (if decide (V.str w0 = V.str clS) = true then (1 : Int) else 0) = if w0 = clS then 1 else 0 := by
        by_cases z : w0 = clS
        · rw [if_pos z, if_pos (decide_eq_true (congrArg V.str z))]
        · rw [if_neg z, if_neg (fun y => z (V.str.inj (of_decide_eq_true y)))]
      refine rd_seq (rd_asg ⟨_, rfl, _, rfl, rfl, .inr ⟨_, rfl, _, _, rfl, rfl, _, rfl, rfl, .inr ⟨_, rfl, _, _, rfl, rfl, ?_⟩⟩⟩)
      dsimp only [gName, List.set_cons_zero, List.set_cons_succ]
      refine rd_asg ⟨_, rfl, _, rfl, _, _, rfl, ?_⟩
      dsimp only [gName, List.set_cons_zero, List.set_cons_succ]
      refine ⟨rfl, some (.str w0), ?_⟩
      rw [et]
      unfold scS
      rw [← e1, ← e2]
    · obtain ⟨rfl, v3, rfl⟩ := hh
      rw [List.length_map, List.take_length]
      dsimp only
      exact rd_ret ⟨_, rfl, q⟩
end
end Mine
namespace Mine
open PySem L2
def kV (ks : List Str) : V → List Str
  | .str z => [z]
  | .ref _ => ks
  | _ => []
theorem tail_kV (p : Addr) (l : Lf) : (lfV p l).tail.flatMap (kV (ksOf l)) = lfKeys l := by
  cases l <;> first | rfl | exact List.append_nil _
inductive LnI (n : Nat) (nd : Nd) (a : Addr) (H : Hp) (Q : VK) : Prop
  | mk (ok : NdOk n nd) (hn : n ≤ 3) (h : NdAt n nd H a) (q : ∀ p H', H p = none → Grow H H' → H' p = some (.lst ((keysN n nd).map V.str)) → Q (.ref p) H') : LnI n nd a H Q
def spLn (n : Nat) : Sp := fun vs H Q _ => ∃ (a : Addr) (nd : Nd), vs = [.ref a] ∧ LnI n nd a H Q
def spLnP (n : Nat) : Sp := fun vs H Q E => ∃ m, n = m + 1 ∧ spLn m vs H Q E
inductive LnV (H : Hp) (a : Addr) (m : Nat) (xs : List Nd) (i : Nat) (σ : St) (H2 : Hp) : Prop
  | mk (p : Addr) (v2 : Option V) (h1 : σ = [some (.ref a), some (.ref p), v2, none]) (h2 : H p = none) (h3 : Grow H H2) (h4 : H2 p = some (.lst (((xs.take i).flatMap (keysN m)).map V.str))) : LnV H a m xs i σ H2
inductive LnT (H : Hp) (a t2 : Addr) (ks : List Str) (ys : List V) (i : Nat) (σ : St) (H2 : Hp) : Prop
  | mk (p : Addr) (v3 : Option V) (h1 : σ = [some (.ref a), some (.ref p), none, v3]) (h2 : H p = none) (h3 : Grow H H2) (h4 : H2 p = some (.lst (((ys.take i).flatMap (kV ks)).map V.str))) (h5 : H2 t2 = some (.tup ys)) : LnT H a t2 ks ys i σ H2
theorem kV_len {p : Addr} {l : Lf} (ok : LfOk l) (i : Nat) : (((lfV p l).tail.take i).flatMap (kV (ksOf l))).length ≤ 8 := by
  have h := lf_klen ok
  rw [← tail_kV p l] at h
  have e := congrArg (fun z => (z.flatMap (kV (ksOf l))).length) (List.take_append_drop i (lfV p l).tail)
  rw [List.flatMap_append, List.length_append] at e
  omega
section
variable {P : Program} {w : World} {K : PySem.W.Frag} {mg : Str → Option Value} {base : Heap}
theorem scLn : FnScope ["_law_node", "_law_found", "_law_part", "_law_one"] ["_law_node"] (defScope sLn) := ⟨rfl, rfl, rfl, by decide +kernel, rfl, by decide +kernel, by decide +kernel⟩
theorem ok_ln {n : Nat} {f f1 : Addr} {fd : FuncData} (F : Fun K "_law_all_names" "_law_all_names" sLn f fd) (N : Free mg) {fd1 : FuncData} (CN : Cal P w K mg base "_law_all_names" n ["_law_node"] (spLnP n) f1 fd1) : FnOk P w K mg base CX0 (n + 1) f fd ["_law_node"] (spLn n) := by
  refine F.ok (k := n) scLn (fun vs H Q E h => ?_) (fun cdv A outer s H vs Q E hr h => ?_)
  · obtain ⟨a, nd, rfl, _⟩ := h
    rfl
  · obtain ⟨a, nd, rfl, ok, hn, h, q⟩ := h
    have hu := hu_of hr
    refine ⟨_, (pss_cons (ps_if (pt_cmpR op_in_seq (pe_ix ix_tup (pv 0) pe_int (fun _ _ => rfl)) (pe_tup (pa_kons pe_str (pa_kons pe_str (pa_kons pe_str (pa_kons pe_str pa_nil))))) (by with_unfolding_all rfl)) (pss_cons (ps_set (i := 1) scLn.nd rfl (Or.inl rfl) (pe_lst pa_nil))
      (pss_cons (ps_for PassesOwn.never rfl (pi_list (pe_ix ix_tup (pv 0) pe_int (fun _ _ => rfl))) (pg_name (i := 2) scLn.nd rfl (Or.inl rfl))
      (pss_one (ps_set (i := 1) scLn.nd rfl (Or.inl rfl) (pe_op op_cat (pv 1) (pe_call CN.ok (hr.mono (by omega)) rfl CN.nm CN.kp CN.bd .nil pass0 (pa_kons (pv 2) pa_nil))))))
      (pss_one (ps_ret (pv 1))))) pss_nil)
      (pss_cons (ps_set (i := 1) scLn.nd rfl (Or.inl rfl) (pe_lst pa_nil))
      (pss_cons (ps_for PassesOwn.never rfl (pi_tup (pe_slice sl_tup (pv 0) (po_some pe_int) po_none)) (pg_name (i := 3) scLn.nd rfl (Or.inl rfl))
      (pss_one (ps_if (pt_val (pe_callB call_isinst (by rfl) N.isinstance PyProof.Rows.Boot.«isinstance» (pa_kons (pv 3) (pa_kons (pe_bltn (v := .ty "list") (by rfl) N.list PyProof.Rows.Boot.«list» rfl) pa_nil)))) (pss_one (ps_set (i := 1) scLn.nd rfl (Or.inl rfl) (pe_op op_cat (pv 1) (pv 3)))) (pss_one (ps_if (pt_val (pe_callB call_isinst (by rfl) N.isinstance PyProof.Rows.Boot.«isinstance» (pa_kons (pv 3) (pa_kons (pe_bltn (v := .ty "str") (by rfl) N.str PyProof.Rows.Boot.«str» rfl) pa_nil)))) (pss_one (ps_expr (pe_bm PySem.F.plainAttrs_list PySem.F.slot_list_append PySem.F.type_list_append mt_append (pv 1) (pa_kons (pv 3) pa_nil)))) pss_nil)))))
      (pss_one (ps_ret (pv 1)))))), ?_⟩
    cases nd with
    | leaf l =>
      have okl := ok_leaf ok
      obtain ⟨pk, ea, hk⟩ := nd_leaf.mp h
      obtain ⟨w, r, ev, nw, ew, er⟩ := leaf_not (p := pk) okl
      have ea' := ea
      rw [ev] at ea'
      refine rd_seq (rd_if ⟨_, rfl, a, _, 0, _, rfl, rfl, SqT.of ea', at_hd _ _, by show 4 ≤ sizeLine; decide, fun tp ntp => ?_⟩)
      obtain ⟨g1, e1⟩ := laid (o := .tup (w4.map V.str)) ntp
      change rIn _ _ _ _ (upd H tp (.tup (w4.map V.str))) _
      generalize upd H tp _ = H1 at g1 e1 ⊢
      refine ⟨tp, _, rfl, .inr (SqT.of e1), rfl, flat_strs _, ?_⟩
      rw [if_neg Bool.false_ne_true, inV_str, decide_eq_false nw]
      refine ⟨_, rfl, iteF (rd_next ?_)⟩
      dsimp only
      refine rd_seq (rd_asg ⟨by show 0 ≤ sizeLine; decide, fun p1 np1 => ?_⟩)
      dsimp only [gName, List.set_cons_zero, List.set_cons_succ]
      obtain ⟨g2, e2⟩ := laid (o := .lst []) np1
      generalize upd H1 p1 _ = H2 at g2 e2 ⊢
      have g12 := g1.trans g2
      refine rd_seq ⟨_, rfl, _, rfl, a, _, rfl, SqT.of (g12 _ _ ea'), (fun z => by rw [List.length_cons, cut_ix] at z; exact absurd z.1 (by decide)), fun t2 nt2 => ?_⟩
      obtain ⟨g3, e3⟩ := laid (o := .tup (cutV (.str w :: r) (some 1) none)) nt2
      generalize upd H2 t2 _ = H3 at g3 e3 ⊢
      have g13 := g12.trans g3
      have ec : cutV (.str w :: r) (some 1) none = (lfV pk l).tail := by rw [er]; exact cut_tl _ _
      rw [ec] at e3
      refine ⟨t2, rfl, ⟨_, SqT.of e3⟩, for_tup (K := K) (a := t2) (xs := (lfV pk l).tail) (LnT H a t2 (ksOf l) (lfV pk l).tail) ⟨p1, none, rfl, free_of g1 np1, g13, g3 _ _ e2, e3⟩ (fun i σ H4 _ hh => ?_) (fun i x σ H4 hi hh => ?_) fun σ H4 hh => ?_⟩
      · obtain ⟨p, v3, rfl, _, _, _, e4⟩ := hh
        exact SqT.of e4
      · obtain ⟨p, v3, rfl, np, g4, ep, e4⟩ := hh
        have hx := List.mem_of_getElem? hi
        have et : (lfV pk l).tail.take (i + 1) = (lfV pk l).tail.take i ++ [x] := by rw [List.take_add_one, hi]; rfl
        have h8 := kV_len (p := pk) okl i
        have npt : p ≠ t2 := ne_of ep e4 (fun z => nomatch z)
        dsimp only [gName, List.set_cons_zero, List.set_cons_succ]
        rcases lf_item okl hx with ⟨z, rfl⟩ | ⟨j, rfl, hb⟩ | ⟨rfl, w', ks, f0, l0, rfl⟩
        · refine rd_if ⟨_, rfl, _, "list", _, false, rfl, .str z, by rfl, _, rfl, iteF ?_⟩
          refine rd_if ⟨_, rfl, _, "str", _, true, rfl, .str z, by rfl, _, rfl, iteT ?_⟩
          refine rd_expr ⟨_, rfl, .inl ⟨rfl, _, SqL.of ep⟩, _, rfl, p, _, _, rfl, rfl, ep, by rw [List.length_map]; exact small1000 (by omega), ?_⟩
          refine ⟨p, _, rfl, np, fun b o e => by rw [upd_ne (ne_of_none e np)]; exact g4 _ _ e, ?_, by rw [upd_ne (Ne.symm npt)]; exact e4⟩
          rw [upd_same, et, List.flatMap_append, List.map_append]
          rfl
        · refine rd_if ⟨_, rfl, _, "list", _, false, rfl, .int j, by rfl, _, rfl, iteF ?_⟩
          refine rd_if ⟨_, rfl, _, "str", _, false, rfl, .int j, by rfl, _, rfl, iteF (rd_next ?_)⟩
          refine ⟨p, _, rfl, np, g4, ?_, e4⟩
          rw [ep, et, List.flatMap_append]
          show _ = some (HO.lst ((_ ++ []).map V.str))
          rw [List.append_nil]
        · have ek := g4 _ _ (show H pk = some (.lst (ks.map V.str)) from hk)
          have hk8 := lf_klen okl
          refine rd_if ⟨_, rfl, _, "list", _, true, rfl, .lst ek, by rfl, _, rfl, iteT ?_⟩
          refine rd_asg ⟨_, rfl, _, rfl, p, pk, _, _, rfl, rfl, ep, ek, ?_, fun p5 np5 => ?_⟩
          · rw [List.length_map, List.length_map]
            exact big_line (show _ + _ ≤ 100000 by have : ks.length ≤ 8 := hk8; omega)
          dsimp only [gName, List.set_cons_zero, List.set_cons_succ]
          obtain ⟨g5, e5⟩ := laid (o := .lst ((((lfV pk (.gth w' ks f0 l0)).tail.take i).flatMap (kV ks)).map V.str ++ ks.map V.str)) np5
          refine ⟨p5, _, rfl, free_of g4 np5, g4.trans g5, ?_, g5 _ _ e4⟩
          refine e5.trans ?_
          rw [et, List.flatMap_append, List.map_append, List.flatMap_cons, List.flatMap_nil, List.append_nil]
          rfl
      · obtain ⟨p, v3, rfl, np, g4, ep, e4⟩ := hh
        rw [List.take_length, tail_kV] at ep
        dsimp only
        rw [kN_leaf] at q
        exact rd_ret ⟨_, rfl, q p H4 np g4 ep⟩
    | brk w xs =>
      cases n with
      | zero => exact (show False from ok).elim
      | succ m =>
        obtain ⟨li, as, ea, eli, hp⟩ : BN w xs (fun a q => NdAt m q H a) H a := h
        obtain ⟨hw, hxs⟩ : _ ∧ _ := id ok
        have hl4 := brk_len hw
        have hal := paired_len hp
        refine rd_seq (rd_if ⟨_, rfl, a, _, 0, _, rfl, rfl, SqT.of ea, rfl, by show 4 ≤ sizeLine; decide, fun tp ntp => ?_⟩)
        obtain ⟨g1, e1⟩ := laid (o := .tup (w4.map V.str)) ntp
        change rIn _ _ _ _ (upd H tp (.tup (w4.map V.str))) _
        generalize upd H tp _ = H1 at g1 e1 ⊢
        refine ⟨tp, _, rfl, .inr (SqT.of e1), rfl, flat_strs _, ?_⟩
        rw [if_neg Bool.false_ne_true, inV_str, decide_eq_true (brW_of hw)]
        refine ⟨_, rfl, iteT ?_⟩
        refine rd_seq (rd_asg ⟨by show 0 ≤ sizeLine; decide, fun p1 np1 => ?_⟩)
        dsimp only [gName, List.set_cons_zero, List.set_cons_succ]
        obtain ⟨g2, e2⟩ := laid (o := .lst []) np1
        generalize upd H1 p1 _ = H2 at g2 e2 ⊢
        have g12 := g1.trans g2
        refine rd_seq ⟨_, rfl, a, _, 1, _, rfl, rfl, SqT.of (g12 _ _ ea), rfl, li, rfl, ⟨_, SqL.of (g12 _ _ eli)⟩, for_list (K := K) (a := li) (xs := as.map V.ref) (LnV H a m xs) ⟨p1, none, rfl, free_of g1 np1, g12, e2⟩ (fun i σ H3 _ hh => ?_) (fun i v σ H3 hi hh => ?_) fun σ H3 hh => ?_⟩
        · obtain ⟨p, v2, rfl, _, g3, _⟩ := hh
          exact SqL.of (g3 _ _ eli)
        · obtain ⟨p, v2, rfl, np, g3, e3⟩ := hh
          rw [List.getElem?_map] at hi
          obtain ⟨b0, hb0, rfl⟩ := Option.map_eq_some_iff.mp hi
          obtain ⟨q0, hq0, hqa⟩ := paired_get hp hb0
          have hqx := hxs q0 (List.mem_of_getElem? hq0)
          have hil := (List.getElem?_eq_some_iff.mp hq0).1
          have et : xs.take (i + 1) = xs.take i ++ [q0] := by rw [List.take_add_one, hq0]; rfl
          dsimp only [gName, List.set_cons_zero, List.set_cons_succ]
          have hbl := flat_len (g := keysN m) (m := 512) (xs.take i) fun q hq => Nat.le_trans (keys_len (hxs q (List.mem_of_mem_take hq))) (Kn_le (by omega))
          rw [List.length_take] at hbl
          have hkl := Nat.le_trans (keys_len hqx) (Kn_le (show m ≤ 3 by omega))
          refine rd_asg ⟨_, rfl, _, rfl, m, rfl, b0, q0, rfl, hqx, by omega, NdAt.keep g3 hqa, fun p4 H4 np4 g4 e4 => ?_⟩
          refine ⟨p, p4, _, _, rfl, rfl, g4 _ _ e3, e4, ?_, fun p5 np5 => ?_⟩
          · rw [List.length_map, List.length_map]
            exact big_line (show _ + _ ≤ 100000 by omega)
          obtain ⟨g5, e5⟩ := laid (o := .lst (((xs.take i).flatMap (keysN m)).map V.str ++ (keysN m q0).map V.str)) np5
          have gg := (g3.trans g4)
          refine ⟨p5, _, rfl, free_of gg np5, gg.trans g5, ?_⟩
          refine e5.trans ?_
          rw [et, List.flatMap_append, List.map_append, List.flatMap_cons, List.flatMap_nil, List.append_nil]
        · obtain ⟨p, v2, rfl, np, g3, e3⟩ := hh
          rw [List.length_map, hal, List.take_length] at e3
          dsimp only
          exact rd_ret ⟨_, rfl, q p H3 np g3 e3⟩
end
section
variable {P : Program} {w : World} {K : PySem.W.Frag} {mg : Str → Option Value} {base : Heap}
def spLnE : Sp := fun vs H Q E => ∃ n, n ≤ 3 ∧ spLn n vs H Q E
theorem ln_all {f : Addr} {fd : FuncData} (F : Fun K "_law_all_names" "_law_all_names" sLn f fd) (nq : mg "_law_all_names" = some (.ref f)) (bq : Binds K fd ["_law_node"] []) (N : Free mg) : ∀ n, FnOk P w K mg base CX0 (n + 1) f fd ["_law_node"] (spLn n)
  | 0 => ok_ln F N ⟨FnOk.no (fun vs H Q E h => by obtain ⟨m, hm, _⟩ := h; cases hm), nq, F.kp, bq⟩
  | n + 1 => ok_ln F N ⟨FnOk.imp (ln_all F nq bq N n) (fun vs H Q E h => by obtain ⟨m, hm, h⟩ := h; cases hm; exact h), nq, F.kp, bq⟩
theorem ok_lnE {f : Addr} {fd : FuncData} (F : Fun K "_law_all_names" "_law_all_names" sLn f fd) (nq : mg "_law_all_names" = some (.ref f)) (bq : Binds K fd ["_law_node"] []) (N : Free mg) : FnOk P w K mg base CX0 4 f fd ["_law_node"] spLnE := FnOk.ex (sp := spLn) (N := 3) fun n hn => FnOk.mono (ln_all F nq bq N n) (by omega)
end
inductive FtI (n : Nat) (nd : Nd) (a : Addr) (H : Hp) (Q : VK) : Prop
  | mk (ok : NdOk n nd) (hn : n ≤ 3) (h : NdAt n nd H a) (q : ∀ m nd' a' H', m ≤ 3 → NdOk m nd' → NdAt m nd' H' a' → Grow H H' → Q (.ref a') H') : FtI n nd a H Q
def spLft : Sp := fun vs H Q _ => ∃ (n : Nat) (nd : Nd) (a : Addr), vs = [.ref a] ∧ FtI n nd a H Q
inductive FtW (H : Hp) (m : Nat) (σ : St) (H2 : Hp) : Prop
  | mk (nd : Nd) (a : Addr) (h1 : σ = [some (.ref a)]) (h2 : m ≤ 3) (h3 : NdOk m nd) (h4 : NdAt m nd H2 a) (h5 : Grow H H2) : FtW H m σ H2
theorem leaf_400 {l : Lf} (ok : LfOk l) : (jn (lfWords l)).length ≤ 400 := by
  have := jn_len (ws := lfWords l) (m := 79) fun w hw => (lf_wd ok w hw).hi
  have h2 := (lf_len l).2
  omega
section
variable {P : Program} {w : World} {K : PySem.W.Frag} {mg : Str → Option Value} {base : Heap}
theorem scLft : FnScope ["_law_node"] ["_law_node"] (defScope sLft) := ⟨rfl, rfl, rfl, by decide +kernel, rfl, by decide +kernel, by decide +kernel⟩
theorem ok_lft {f f1 : Addr} {fd : FuncData} (F : Fun K "_law_fitting" "_law_fitting" sLft f fd) (N : Free mg) {fd1 : FuncData} (CW : Cal P w K mg base "_law_words" 4 ["_law_node"] spLwE f1 fd1) : FnOk P w K mg base CX0 5 f fd ["_law_node"] spLft := by
  refine F.ok (k := 4) scLft (fun vs H Q E h => ?_) (fun cdv A outer s H vs Q E hr h => ?_)
  · obtain ⟨n, nd, a, rfl, _⟩ := h
    rfl
  · obtain ⟨n, nd, a, rfl, ok, hn, h, q⟩ := h
    have hu := hu_of hr
    refine ⟨_, (pss_cons (ps_while PassesOwn.never (pt_cmpR op_gt (pe_callB call_len_str (by rfl) N.len PySem.boot_len (pa_kons (pe_bm PySem.F.plainAttrs_str PySem.F.slot_str_join PySem.F.type_str_join mt_join pe_str (pa_kons (pe_call CW.ok (hr.mono (by decide)) rfl CW.nm CW.kp CW.bd .nil pass0 (pa_kons (pv 0) pa_nil)) pa_nil)) pa_nil)) pe_int (nomark _)) (pss_one (ps_set (i := 0) scLft.nd rfl (Or.inl rfl) (pe_ix ix_list (pe_ix ix_tup (pv 0) pe_int (fun _ _ => rfl)) pe_int (fun _ _ => rfl)))))
      (pss_one (ps_ret (pv 0)))), ?_⟩
    refine rd_seq (rd_while (FtW H) (m := n) ⟨nd, a, rfl, hn, ok, h, Grow.refl⟩ fun m σ H2 hh => ?_)
    obtain ⟨nd2, a2, rfl, hm, ok2, h2, g2⟩ := hh
    refine ⟨rfl, _, rfl, m, hm, a2, nd2, rfl, ok2, hm, h2, fun p H3 np g3 e3 => ?_⟩
    have hws := words_wd ok2
    have hwl := Nat.le_trans (words_len ok2) (Wn_le hm)
    refine ⟨_, p, _, rfl, rfl, e3, jn_fits (fun w hw => Nat.le_trans (hws w hw).len (by decide)) (by omega), ?_⟩
    have hjl := jn_len (ws := wordsN m nd2) (m := 79) fun w hw => (hws w hw).len
    refine ⟨_, rfl, big_line (Nat.le_trans hjl (by omega)), ?_⟩
    refine ⟨_, _, rfl, rfl, _, rfl, ite2 (fun hc => ?_) fun _ => ?_⟩
    · have hc : ((jn (wordsN m nd2)).length : Int) > 400 := of_decide_eq_true hc
      cases nd2 with
      | leaf l =>
        rw [wN_leaf] at hc
        have := leaf_400 (ok_leaf ok2)
        omega
      | brk w xs =>
        cases m with
        | zero => exact (show False from ok2).elim
        | succ m =>
          obtain ⟨li, as, ea, eli, hp⟩ : BN w xs (fun a q => NdAt m q H2 a) H2 a2 := h2
          obtain ⟨hw, hxs⟩ : _ ∧ _ := id ok2
          have hl4 := brk_len hw
          refine ⟨FtW H m, fun σ' H' hh => ⟨m, by omega, hh⟩, ?_⟩
          cases hp with
          | nil => exact absurd hl4.1 (by decide)
          | cons hq0 hr =>
            refine rd_asg ⟨_, rfl, a2, _, 1, _, rfl, rfl, SqT.of (g3 _ _ ea), rfl, li, _, 0, _, rfl, rfl, SqL.of (g3 _ _ eli), at_hd _ _, ?_⟩
            dsimp only [gName, List.set_cons_zero, List.set_cons_succ]
            exact ⟨_, _, rfl, by omega, hxs _ List.mem_cons_self, NdAt.keep g3 hq0, g2.trans g3⟩
    · dsimp only
      exact rd_ret ⟨_, rfl, q m nd2 a2 H3 hm ok2 (NdAt.keep g3 h2) (g2.trans g3)⟩
end
end Mine
namespace Mine
open PySem L2
abbrev sRight : Stmt := top 60
abbrev sLaw : Stmt := top 61
theorem once_take (ks : List Str) (i : Nat) {k : Str} (h : ks[i]? = some k) : onceL (ks.take (i + 1)) = if k ∈ ks.take i then onceL (ks.take i) else onceL (ks.take i) ++ [k] := by
  rw [List.take_add_one, h]
  show onceL (ks.take i ++ [k]) = _
  rw [once_snoc]
  by_cases z : k ∈ ks.take i
  · rw [if_pos z, if_pos (once_mem.mpr z)]
  · rw [if_neg z, if_neg (fun y => z (once_mem.mp y))]
theorem cut_to (xs : List V) (i : Nat) (h : i ≤ xs.length) : cutV xs none (some (i : Int)) = xs.take i := by
  unfold cutV
  rw [HT.sIx_nat, Nat.min_eq_left h]
  rfl
theorem plain_ss (os : List Str) : (os.map V.str).all plainV = true := by
  rw [List.all_map, List.all_eq_true]
  intro x _
  rfl
theorem compB_once {K : PySem.W.Frag} {la : Addr} {ks : List Str} {sub : List Nat} {tt : TT} {te : TE} {σ : St} {Q : VK} {H : Hp} (hn : ks.length < 1000) (ha : H la = some (.lst (ks.map V.str)))
    (htt : ∀ (i : Nat) (k : Str) (H2 : Hp) (R : Bool → Hp → Prop), ks[i]? = some k → Grow H H2 → (∀ H3, Grow H2 H3 → R (!decide (k ∈ ks.take i)) H3) → tt (some (.int (i : Int)) :: some (.str k) :: subσ sub σ) H2 R)
    (hte : ∀ (i : Nat) (k : Str) (H2 : Hp) (R : VK), R (.str k) H2 → te (some (.int (i : Int)) :: some (.str k) :: subσ sub σ) H2 R)
    (hq : ∀ (D : Addr) (H' : Hp), H D = none → Grow H H' → H' D = some (.lst ((onceL ks).map V.str)) → Q (.ref D) H') : CompB2 K (Ite K la) sub tt te σ Q H := by
  intro D nD
  refine comp_enum (K := K) (a := la) (xs := ks.map V.str) (sub := sub) (tt := tt) (te := te) (Q := Q) (σ := σ) (fun i ys H2 => ys = (onceL (ks.take i)).map V.str ∧ Grow H H2 ∧ H2 D = some (.lst ys)) ⟨rfl, (laid nD).1, upd_same⟩ (fun i ys H2 _ hh => ?_) (fun i x ys H2 t hi hh nt => ?_) fun ys H2 hh => ?_
  · obtain ⟨_, g2, _⟩ := hh
    exact SqL.of (g2 _ _ ha)
  · obtain ⟨rfl, g2, e2⟩ := hh
    rw [List.getElem?_map] at hi
    obtain ⟨k, hk, rfl⟩ := Option.map_eq_some_iff.mp hi
    have hil := (List.getElem?_eq_some_iff.mp hk).1
    obtain ⟨g3, _⟩ := laid (o := .tup [.int (i : Int), .str k]) nt
    have hol : (onceL (ks.take i)).length ≤ i := once_len i _ (by rw [List.length_take]; omega)
    refine htt i k _ _ hk (g2.trans g3) fun H4 g4 => ?_
    have e2' := g4 _ _ (g3 _ _ e2)
    have g24 := (g2.trans g3).trans g4
    by_cases z : k ∈ ks.take i
    · rw [decide_eq_true z]
      refine iteF ⟨?_, g24, e2'⟩
      rw [once_take _ _ hk, if_pos z]
    · rw [decide_eq_false z]
      refine iteT (hte i k _ _ ⟨e2', ?_, ?_, fun b o e => ?_, upd_same⟩)
      · rw [List.length_map]; exact small1000 (by omega)
      · rw [once_take _ _ hk, if_neg z, List.map_append]; rfl
      · rw [upd_ne (ne_of_none e nD)]; exact g24 _ _ e
  · obtain ⟨rfl, g2, e2⟩ := hh
    rw [List.length_map, List.take_length] at e2
    exact hq D H2 nD g2 e2
inductive RiI (n : Nat) (nd : Nd) (a : Addr) (H : Hp) (Q : VK) : Prop
  | mk (ok : NdOk n nd) (hn : n ≤ 3) (h : NdAt n nd H a) (q : ∀ H', Grow H H' → Q (.bl true) H') : RiI n nd a H Q
def spRight : Sp := fun vs H Q _ => ∃ (n : Nat) (nd : Nd) (a : Addr), vs = [.str (jn (wordsN n nd)), .ref a] ∧ RiI n nd a H Q
def spLaw (K : PySem.W.Frag) : Sp := fun vs H Q _ => ∃ (a : Addr) (ns : List Int), vs = [.ref a] ∧ SqL K H a (ns.map V.int) ∧ ns.length ≤ 63 ∧ ∀ H', Q (.bl true) H'
section
variable {P : Program} {w : World} {K : PySem.W.Frag} {mg : Str → Option Value} {base : Heap}
theorem scRight : FnScope ["_law_text", "_law_node", "_law_some_here", "_law_due", "_law_question_here", "_law_found", "_law_deep"] ["_law_text", "_law_node"] (defScope sRight) := ⟨rfl, rfl, rfl, by decide +kernel, rfl, by decide +kernel, by decide +kernel⟩
theorem ok_right {c : Cs} {f f1 f2 f3 f4 CQ_ : Addr} {fd : FuncData} (F : Fun K "_law_right" "_law_right" sRight f fd) (N : Free mg) (VQ : ∀ C ∈ c.all, QuC K C) (VT : ∀ C ∈ c.all, MV P w K mg base CX0 "text" 1 ["self"] (spText K) C) (VA : ∀ C ∈ c.all, MV P w K mg base CX0 "asked_keys" 1 ["self"] (spAsked K) C) (VD : ∀ C ∈ c.all, MV P w K mg base CX0 "depth" 1 ["self"] (spDepthQ K) C) (nQ : mg "Question" = some (.ref CQ_)) (VY : ∀ C ∈ c.all, (∀ (H : Hp) (a dx : Addr) (fs : List (Str × V)), H a = some (.ins C dx fs) → TyOf K H (.ref a) (.ref C)) ∧ PySem.W.kitOne K (.ref C) (.ref CQ_) = some true) {fd1 : FuncData} (CN : Cal P w K mg base "_law_all_names" 4 ["_law_node"] spLnE f1 fd1) {fd2 : FuncData} (CQ : Cal P w K mg base "question_of" 13 ["text"] (spQof c) f2 fd2) {fd3 : FuncData} (CD : Cal P w K mg base "_law_depth" 1 ["_law_words_here"] (spLd K) f3 fd3) {fd4 : FuncData} (CW : Cal P w K mg base "_law_words" 4 ["_law_node"] spLwE f4 fd4) : FnOk P w K mg base CX0 14 f fd ["_law_text", "_law_node"] spRight := by
  refine F.ok (k := 13) scRight (fun vs H Q E h => ?_) (fun cdv A outer s H vs Q E hr h => ?_)
  · obtain ⟨n, nd, a, rfl, _⟩ := h
    rfl
  · obtain ⟨n, nd, a, rfl, ok, hn, h, q⟩ := h
    have hu := hu_of hr
    refine ⟨_, (pss_cons (ps_set (i := 2) scRight.nd rfl (Or.inr rfl) (pe_call CN.ok (hr.mono (by decide)) rfl CN.nm CN.kp CN.bd .nil pass0 (pa_kons (pv 1) pa_nil)))
      (pss_cons (ps_setC (i := 3) scRight.nd rfl (Or.inl rfl) (pec_compN2 rfl (pi_enum rfl N.enumerate (pa_kons (pv 2) pa_nil)) rfl rfl (by show ∀ p ∈ _, CapN [Str.ofString "_law_some_here"] p; decide) (by decide) rfl rfl (by show ([Str.ofString "_law_at", Str.ofString "_law_name", Str.ofString "_law_some_here"] : List Str).Nodup; decide) (.cons (i := 2) rfl (.inr (.inl rfl)) (by show (some NameKind.cell) ≠ some NameKind.local; decide) (.inl rfl) rfl .nil) (fun C fp s H => (pts_one (pt_cmpR (r := rIn K true) op_notIn_seq (pv 1) (pe_slice (r := rSlL K) sl_list (pv 2) po_none (po_some (pv 0))) (by with_unfolding_all rfl)))) (fun C fp s H => (pv 1))))
      (pss_cons (ps_set (i := 4) scRight.nd rfl (Or.inl rfl) (pe_call CQ.ok (hr.mono (by decide)) rfl CQ.nm CQ.kp CQ.bd .nil pass0 (pa_kons (pv 0) pa_nil)))
      (pss_cons (ps_if (PW.pt (pw_or (pt_not (pt_val (pe_callB call_isinstO (by rfl) N.isinstance PyProof.Rows.Boot.«isinstance» (pa_kons (pv 4) (pa_kons (pe_glob (v := .ref CQ_) (by rfl) nQ rfl) pa_nil))))) (pw_or1 (pt_cmpR op_ne (pe_methV0 VT (pv 4) (hr.mono (by decide)) pass0) (pv 0) (nomark _))))) (pss_one (ps_ret pe_bl)) pss_nil)
      (pss_cons (ps_set (i := 5) scRight.nd rfl (Or.inl rfl) (pe_methV0 VA (pv 4) (hr.mono (by decide)) pass0))
      (pss_cons (ps_set (i := 6) scRight.nd rfl (Or.inl rfl) (pe_methV0 VD (pv 4) (hr.mono (by decide)) pass0))
      (pss_cons (ps_if (PW.pt (pw_or (pt_not (pt_val (pe_callB call_isinst (by rfl) N.isinstance PyProof.Rows.Boot.«isinstance» (pa_kons (pv 5) (pa_kons (pe_bltn (v := .ty "list") (by rfl) N.list PyProof.Rows.Boot.«list» rfl) pa_nil))))) (pw_or1 (pt_cmpR (op_neSameL hr.units) (pv 5) (pv 3) (nomark _))))) (pss_one (ps_ret pe_bl)) pss_nil)
      (pss_cons (ps_if (PW.pt (pw_or (pt_not (pt_val (pe_callB call_isinst (by rfl) N.isinstance PyProof.Rows.Boot.«isinstance» (pa_kons (pv 6) (pa_kons (pe_bltn (v := .ty "int") (by rfl) N.int PyProof.Rows.Boot.«int» rfl) pa_nil))))) (pw_or (pt_val (pe_callB call_isinst (by rfl) N.isinstance PyProof.Rows.Boot.«isinstance» (pa_kons (pv 6) (pa_kons (pe_bltn (v := .ty "bool") (by rfl) N.bool PyProof.Rows.Boot.«bool» rfl) pa_nil)))) (pw_or1 (pt_cmpR op_ne (pv 6) (pe_call CD.ok (hr.mono (by decide)) rfl CD.nm CD.kp CD.bd .nil pass0 (pa_kons (pe_call CW.ok (hr.mono (by decide)) rfl CW.nm CW.kp CW.bd .nil pass0 (pa_kons (pv 1) pa_nil)) pa_nil)) (nomark _)))))) (pss_one (ps_ret pe_bl)) pss_nil)
      (pss_cons (ps_expr (pe_bm0 PySem.F.plainAttrs_list PySem.F.slot_list_clear PySem.F.type_list_clear mt_clear (pv 5)))
      (pss_one (ps_ret (pe_and (pe_cmpR (op_eqSameL hr.units) (pe_methV0 VA (pv 4) (hr.mono (by decide)) pass0) (pv 3) (nomark _)) (pe_one (pe_cmpR op_eq (pe_methV0 VT (pv 4) (hr.mono (by decide)) pass0) (pv 0) (nomark _))))))))))))))), ?_⟩
    have hkl := Nat.le_trans (keys_len ok) (Kn_le hn)
    refine rd_seq (rd_asg ⟨_, rfl, n, hn, a, nd, rfl, ok, hn, h, fun p H1 np g1 e1 => ?_⟩)
    dsimp only [gName, List.set_cons_zero, List.set_cons_succ]
    refine rd_seq (rd_asg (rd_comp2 ⟨_, rfl, p, rfl, ⟨_, SqL.of e1⟩, ?_⟩))
    refine compB_once (Nat.lt_of_le_of_lt hkl (by decide)) e1 (fun i k H2 R hk g2 hR => ?_) (fun i k H2 R hR => ⟨_, rfl, hR⟩) fun D H2 nD g2 e2 => ?_
    · have hil := (List.getElem?_eq_some_iff.mp hk).1
      refine ⟨_, rfl, _, rfl, _, rfl, _, rfl, p, _, rfl, SqL.of (g2 _ _ e1), fun p4 np4 => ?_⟩
      rw [cut_to _ _ (by rw [List.length_map]; omega), ← List.map_take]
      obtain ⟨g4, e4⟩ := laid (o := .lst (((keysN n nd).take i).map V.str)) np4
      generalize upd H2 p4 _ = H4 at g4 e4 ⊢
      refine ⟨p4, _, rfl, .inl (SqL.of e4), rfl, flat_strs _, ?_⟩
      rw [if_pos rfl, inV_str]
      exact ⟨_, rfl, hR H4 g4⟩
    dsimp only [gName, List.set_cons_zero, List.set_cons_succ]
    have g12 := g1.trans g2
    refine rd_seq (rd_asg ⟨_, rfl, n, nd, rfl, ok, hn, fun x H3 nx g3 qn => ?_⟩)
    dsimp only [gName, List.set_cons_zero, List.set_cons_succ]
    have g13 := g12.trans g3
    have e3 := g3 _ _ e2
    have qx : QnAt c n nd H3 x := QnAt.keep (Kq.grow wo_in) qn
    obtain ⟨C, ln, hC, qa⟩ := qx.at
    obtain ⟨dx, fs, ex, _⟩ := qa.ob' (m := "text") (by decide +kernel)
    obtain ⟨dx1, fs1, ex1, ef1⟩ := qa.ob' (m := "text") (by decide +kernel)
    refine rd_seq (rd_if ⟨_, rfl, _, CQ_, _, true, rfl, (VY C hC).1 _ _ _ _ ex, (VY C hC).2, _, rfl, iteF ?_⟩)
    refine ⟨_, rfl, x, C, dx1, fs1, rfl, ex1, hC, ef1, x, C, ln, _, _, _, rfl, VQ C hC, qa, _, rfl, rfl, ?_⟩
    rw [decide_eq_true rfl]
    refine ⟨_, rfl, iteF (rd_next ?_)⟩
    dsimp only
    obtain ⟨dx2, fs2, ex2, ef2⟩ := qa.ob' (m := "asked_keys") (by decide +kernel)
    refine rd_seq (rd_asg ⟨_, rfl, x, C, dx2, fs2, rfl, ex2, hC, ef2, x, C, ln, _, _, _, rfl, VQ C hC, qa, fun p4 np4 => ?_⟩)
    dsimp only [gName, List.set_cons_zero, List.set_cons_succ]
    obtain ⟨g4, e4⟩ := laid (o := .lst ((onceL (keysN n nd)).map V.str)) np4
    have npD : p4 ≠ D := fun z => by rw [z, e3] at np4; cases np4
    generalize upd H3 p4 _ = H4 at g4 e4 ⊢
    have qx4 : QnAt c n nd H4 x := QnAt.keep (Kq.grow g4) qx
    obtain ⟨C, ln, hC, qa⟩ := qx4.at
    obtain ⟨dx3, fs3, ex3, ef3⟩ := qa.ob' (m := "depth") (by decide +kernel)
    refine rd_seq (rd_asg ⟨_, rfl, x, C, dx3, fs3, rfl, ex3, hC, ef3, x, C, ln, _, _, _, rfl, VQ C hC, qa, ?_⟩)
    dsimp only [gName, List.set_cons_zero, List.set_cons_succ]
    have e4D := g4 _ _ e3
    have g14 := g13.trans g4
    refine rd_seq (rd_if ⟨_, rfl, _, "list", _, true, rfl, .lst e4, by rfl, _, rfl, iteF ?_⟩)
    refine ⟨_, rfl, _, rfl, p4, D, _, rfl, rfl, e4, e4D, plain_ss _, _, rfl, iteF (rd_next ?_)⟩
    dsimp only
    refine rd_seq (rd_if ⟨_, rfl, _, "int", _, true, rfl, .int _, by rfl, _, rfl, iteF ?_⟩)
    refine ⟨_, rfl, _, "bool", _, false, rfl, .int _, by rfl, _, rfl, iteF ?_⟩
    refine ⟨_, rfl, _, rfl, n, hn, a, nd, rfl, ok, hn, NdAt.keep g14 h, fun p5 H5 np5 g5 e5 => ?_⟩
    refine ⟨p5, _, rfl, e5, rfl, ?_⟩
    rw [sc_depth ok, decide_eq_true rfl]
    refine ⟨_, rfl, iteF (rd_next ?_)⟩
    dsimp only
    have e45 := g5 _ _ e4
    have e4D5 := g5 _ _ e4D
    refine rd_seq (rd_expr ⟨_, rfl, .inl ⟨rfl, _, SqL.of e45⟩, p4, _, rfl, rfl, e45, ?_⟩)
    dsimp only
    have g0 : Grow H (upd H5 p4 (.lst [])) := fun b o e => by rw [upd_ne (fun z => by rw [z] at e; rw [g13 _ _ e] at np4; cases np4)]; exact g5 _ _ (g14 _ _ e)
    have qx6 : QnAt c n nd (upd H5 p4 (.lst [])) x := QnAt.keep (Kq.grow (fun b o e => by rw [upd_ne (ne_of_none e np4)]; exact g5 _ _ (g4 _ _ e))) qx
    have e6D : upd H5 p4 (.lst []) D = some (.lst ((onceL (keysN n nd)).map V.str)) := by rw [upd_ne (Ne.symm npD)]; exact e4D5
    generalize upd H5 p4 (.lst []) = H6 at g0 qx6 e6D ⊢
    obtain ⟨C, ln, hC, qa⟩ := qx6.at
    obtain ⟨dx7, fs7, ex7, ef7⟩ := qa.ob' (m := "asked_keys") (by decide +kernel)
    refine rd_ret ⟨_, rfl, x, C, dx7, fs7, rfl, ex7, hC, ef7, x, C, ln, _, _, _, rfl, VQ C hC, qa, fun p7 np7 => ?_⟩
    obtain ⟨g7, e7⟩ := laid (o := .lst ((onceL (keysN n nd)).map V.str)) np7
    generalize upd H6 p7 _ = H7 at g7 e7 ⊢
    refine ⟨_, rfl, p7, D, _, rfl, rfl, e7, g7 _ _ e6D, plain_ss _, _, rfl, iteT ?_⟩
    have qx7 : QnAt c n nd H7 x := QnAt.keep (Kq.grow g7) qx6
    obtain ⟨C, ln, hC, qa⟩ := qx7.at
    obtain ⟨dx8, fs8, ex8, ef8⟩ := qa.ob' (m := "text") (by decide +kernel)
    refine ⟨_, rfl, x, C, dx8, fs8, rfl, ex8, hC, ef8, x, C, ln, _, _, _, rfl, VQ C hC, qa, _, rfl, rfl, ?_⟩
    rw [decide_eq_true rfl]
    exact q H7 (g0.trans g7)
end
end Mine
namespace Mine
open PySem L2
theorem sql_grow {K : PySem.W.Frag} {H H' : Hp} {a : Addr} {xs : List V} (h : SqL K H a xs) (g : Grow H H') : SqL K H' a xs := by
  rcases h with (e | ⟨u, e⟩) | e
  · exact .inl (.inl (g _ _ e))
  · exact .inl (.inr ⟨u, g _ _ e⟩)
  · exact .inr e
section
variable {P : Program} {w : World} {K : PySem.W.Frag} {mg : Str → Option Value} {base : Heap}
theorem scLaw : FnScope ["_law_script", "_law_k", "_law_state", "_law_node", "_law_text"] ["_law_script"] (defScope sLaw) := ⟨rfl, rfl, rfl, by decide +kernel, rfl, by decide +kernel, by decide +kernel⟩
theorem ok_law {f f1 f2 f3 f4 f5 f6 f7 f8 f9 : Addr} {fd : FuncData} (F : Fun K "law" "law" sLaw f fd) (N : Free mg) {fd1 : FuncData} (CC : Cal P w K mg base "_law_cell" 1 ["_law_script", "_law_k"] (spCell K) f1 fd1) {fd2 : FuncData} (CB : Cal P w K mg base "_law_begun" 1 ["_law_cell_here"] spBegun f2 fd2) {fd3 : FuncData} (CM : Cal P w K mg base "_law_mix" 1 ["_law_cell_here", "_law_k"] spMix f3 fd3) {fd4 : FuncData} (CM2 : Cal P w K mg base "_law_names" 3 ["_law_cell_here"] spNames f4 fd4) {fd5 : FuncData} (CI : Cal P w K mg base "_law_window" 3 ["_law_state"] spWindow f5 fd5) {fd6 : FuncData} (CL : Cal P w K mg base "_law_question" 8 ["_law_state", "_law_names_here", "_law_window_here", "_law_deep"] (spLq 3) f6 fd6) {fd7 : FuncData} (CF : Cal P w K mg base "_law_fitting" 5 ["_law_node"] spLft f7 fd7) {fd8 : FuncData} (CW : Cal P w K mg base "_law_words" 4 ["_law_node"] spLwE f8 fd8) {fd9 : FuncData} (CR : Cal P w K mg base "_law_right" 14 ["_law_text", "_law_node"] spRight f9 fd9) : FnOk P w K mg base CX0 15 f fd ["_law_script"] (spLaw K) := by
  refine F.ok (k := 14) scLaw (fun vs H Q E h => ?_) (fun cdv A outer s H vs Q E hr h => ?_)
  · obtain ⟨sa, ns, rfl, _⟩ := h
    rfl
  · obtain ⟨sa, ns, rfl, hS, h63, hq⟩ := h
    have hu := hu_of hr
    refine ⟨_, (pss_cons (ps_for PassesOwn.never rfl (pi_range1 rfl N.range (pa_kons (pe_callB (call_max2 rfl) (by rfl) N.max PyProof.Rows.Boot.«max» (pa_kons pe_int (pa_kons (pe_callB (call_min2 rfl) (by rfl) N.min PyProof.Rows.Boot.«min» (pa_kons (pe_callB call_len_seq (by rfl) N.len PySem.boot_len (pa_kons (pv 0) pa_nil)) (pa_kons pe_int pa_nil))) pa_nil))) pa_nil)) (pg_name (i := 1) scLaw.nd rfl (Or.inl rfl))
      (pss_cons (ps_set (i := 2) scLaw.nd rfl (Or.inl rfl) (pe_call CB.ok (hr.mono (by decide)) rfl CB.nm CB.kp CB.bd .nil pass0 (pa_kons (pe_call CC.ok (hr.mono (by decide)) rfl CC.nm CC.kp CC.bd .nil pass0 (pa_kons (pv 0) (pa_kons (pv 1) pa_nil))) pa_nil)))
      (pss_cons (ps_set (i := 3) scLaw.nd rfl (Or.inl rfl) (pe_call CF.ok (hr.mono (by decide)) rfl CF.nm CF.kp CF.bd .nil pass0 (pa_kons (pe_call CL.ok (hr.mono (by decide)) rfl CL.nm CL.kp CL.bd .nil pass0 (pa_kons (pv 2) (pa_kons (pe_call CM2.ok (hr.mono (by decide)) rfl CM2.nm CM2.kp CM2.bd .nil pass0 (pa_kons (pe_call CM.ok (hr.mono (by decide)) rfl CM.nm CM.kp CM.bd .nil pass0 (pa_kons (pe_call CC.ok (hr.mono (by decide)) rfl CC.nm CC.kp CC.bd .nil pass0 (pa_kons (pv 0) (pa_kons (pv 1) pa_nil))) (pa_kons pe_int pa_nil))) pa_nil)) (pa_kons (pe_call CI.ok (hr.mono (by decide)) rfl CI.nm CI.kp CI.bd .nil pass0 (pa_kons (pv 2) pa_nil)) (pa_kons pe_int pa_nil))))) pa_nil)))
      (pss_cons (ps_set (i := 4) scLaw.nd rfl (Or.inl rfl) (pe_bm PySem.F.plainAttrs_str PySem.F.slot_str_join PySem.F.type_str_join mt_join pe_str (pa_kons (pe_call CW.ok (hr.mono (by decide)) rfl CW.nm CW.kp CW.bd .nil pass0 (pa_kons (pv 3) pa_nil)) pa_nil)))
      (pss_one (ps_if (PW.pt (pw_or (pt_not (pt_val (pe_call CR.ok (hr.mono (by decide)) rfl CR.nm CR.kp CR.bd .nil pass0 (pa_kons (pv 4) (pa_kons (pv 3) pa_nil))))) (pw_or1 (pt_not (pt_val (pe_call CR.ok (hr.mono (by decide)) rfl CR.nm CR.kp CR.bd .nil pass0 (pa_kons (pv 4) (pa_kons (pv 3) pa_nil)))))))) (pss_one (ps_ret pe_bl)) pss_nil))))))
      (pss_one (ps_ret pe_bl))), ?_⟩
    refine rd_seq ?_
    refine ⟨_, rfl, sa, _, rfl, .inl hS, _, _, rfl, _, _, rfl, ?_⟩
    rw [List.length_map]
    have hr1 : ∀ x : Int, x ≤ 12 → (if x > 2 then x else 2) ≤ 12 := fun x h => by split <;> omega
    have hr2 : (if (12 : Int) < (ns.length : Int) then 12 else (ns.length : Int)) ≤ 12 := by split <;> omega
    have hr3 := hr1 _ hr2
    have hr4 : 2 ≤ (if (if (12 : Int) < (ns.length : Int) then 12 else (ns.length : Int)) > 2 then (if (12 : Int) < (ns.length : Int) then 12 else (ns.length : Int)) else 2) := by split <;> omega
    generalize (if (if (12 : Int) < (ns.length : Int) then 12 else (ns.length : Int)) > 2 then (if (12 : Int) < (ns.length : Int) then 12 else (ns.length : Int)) else 2) = m at hr3 hr4 ⊢
    refine ⟨m, rfl, by omega, by omega, for_range (lo := 0) (n := m.toNat) (fun i σ H2 => SqL K H2 sa (ns.map V.int) ∧ ∃ v1 v2 v3 v4, σ = [some (.ref sa), v1, v2, v3, v4]) ⟨hS, none, none, none, none, rfl⟩ (fun k σ H2 hk hh => ?_) fun σ H2 hh => ?_⟩
    · obtain ⟨hS2, v1, v2, v3, v4, rfl⟩ := hh
      dsimp only [gName, List.set_cons_zero, List.set_cons_succ]
      rw [Int.zero_add]
      refine rd_seq (rd_asg ⟨_, rfl, _, rfl, sa, ns, _, rfl, hS2, by omega, by omega, fun c1 => ⟨c1, rfl, fun s H3 nst g3 hs3 => ?_⟩⟩)
      dsimp only [gName, List.set_cons_zero, List.set_cons_succ]
      have hS3 := sql_grow hS2 g3
      refine rd_seq (rd_asg ⟨_, rfl, _, rfl, _, rfl, sa, ns, _, rfl, hS3, by omega, by omega, fun c2 => ⟨c2, 99, rfl, fun mx0 _ _ => ⟨mx0, rfl, fun ln ss H4 nln g4 eln hss => ?_⟩⟩⟩)
      have hs4 := hs3.keep g4
      have nls : ln ≠ s := fun z => by obtain ⟨xs, e⟩ := hs3.lst; rw [z, e] at nln; cases nln
      refine ⟨_, rfl, s, rfl, hs4, fun t lo wd H5 o5 hs5 et nts h0 h1 h2 => ?_⟩
      refine ⟨s, ln, t, rfl, ss, lo, wd, by decide, hs5, o5 _ _ eln nls, hss, nls, et, nts, h0, h1, h2, fun a nd H6 ok6 na6 o6 hs6 hn6 => ?_⟩
      refine ⟨3, nd, a, rfl, ok6, by decide, NdAt.keep wo_in hn6, fun n nd' a' H7 hn ok hnd g7 => ?_⟩
      dsimp only [gName, List.set_cons_zero, List.set_cons_succ]
      have g27 : Grow H2 H7 := fun b o e => g7 _ _ (o6 _ _ (o5 _ _ (g4 _ _ (g3 _ _ e)) (ne_of_none e nst)) (ne_of_none e nst))
      have hS7 := sql_grow hS2 g27
      refine rd_seq (rd_asg ⟨rfl, _, rfl, n, hn, a', nd', rfl, ok, hn, hnd, fun p H8 np g8 e8 => ?_⟩)
      refine ⟨_, p, _, rfl, rfl, e8, jn_fits (fun w hw => Nat.le_trans (words_wd ok w hw).len (by decide)) (Nat.le_trans (words_len ok) (Nat.le_trans (Wn_le hn) (by decide))), ?_⟩
      dsimp only [gName, List.set_cons_zero, List.set_cons_succ]
      have hnd8 := NdAt.keep g8 hnd
      have hS8 := sql_grow hS7 g8
      refine rd_if ⟨_, rfl, _, rfl, n, nd', a', rfl, ok, hn, hnd8, fun H9 g9 => ⟨_, rfl, iteF ?_⟩⟩
      refine ⟨_, rfl, _, rfl, n, nd', a', rfl, ok, hn, NdAt.keep g9 hnd8, fun Ha ga => ⟨_, rfl, iteF (rd_next ?_)⟩⟩
      exact ⟨sql_grow (sql_grow hS8 g9) ga, _, _, _, _, rfl⟩
    · obtain ⟨hS2, v1, v2, v3, v4, rfl⟩ := hh
      dsimp only
      exact rd_ret (hq _)
end
end Mine
namespace Mine
open PySem L2
theorem ar1 {P : List Value → Prop} (h : ∀ a, P [a]) : ∀ us : List Value, us.length = 1 → P us := fun us e => by
  obtain ⟨a, rfl⟩ := List.length_eq_one_iff.mp e
  exact h a
theorem ar2 {P : List Value → Prop} (h : ∀ x1 x2, P [x1, x2]) (us : List Value) (e : us.length = 2) : P us := by
  cases us with
  | nil => cases e
  | cons a t => exact ar1 (P := fun t => P (a :: t)) (fun x1 => h a x1) t (Nat.succ.inj e)
theorem ar3 {P : List Value → Prop} (h : ∀ x1 x2 x3, P [x1, x2, x3]) (us : List Value) (e : us.length = 3) : P us := by
  cases us with
  | nil => cases e
  | cons a t => exact ar2 (P := fun t => P (a :: t)) (fun x1 x2 => h a x1 x2) t (Nat.succ.inj e)
theorem ar4 {P : List Value → Prop} (h : ∀ x1 x2 x3 x4, P [x1, x2, x3, x4]) (us : List Value) (e : us.length = 4) : P us := by
  cases us with
  | nil => cases e
  | cons a t => exact ar3 (P := fun t => P (a :: t)) (fun x1 x2 x3 => h a x1 x2 x3) t (Nat.succ.inj e)
theorem ar5 {P : List Value → Prop} (h : ∀ x1 x2 x3 x4 x5, P [x1, x2, x3, x4, x5]) (us : List Value) (e : us.length = 5) : P us := by
  cases us with
  | nil => cases e
  | cons a t => exact ar4 (P := fun t => P (a :: t)) (fun x1 x2 x3 x4 => h a x1 x2 x3 x4) t (Nat.succ.inj e)
theorem ar6 {P : List Value → Prop} (h : ∀ x1 x2 x3 x4 x5 x6, P [x1, x2, x3, x4, x5, x6]) (us : List Value) (e : us.length = 6) : P us := by
  cases us with
  | nil => cases e
  | cons a t => exact ar5 (P := fun t => P (a :: t)) (fun x1 x2 x3 x4 x5 => h a x1 x2 x3 x4 x5) t (Nat.succ.inj e)
def isRefB (f : Addr) : Option (Option Value) → Bool
  | some (some (.ref g)) => decide (g = f)
  | _ => false
def isBltB (n : String) : Option (Option Value) → Bool
  | some (some (.builtin m)) => decide (m = n)
  | _ => false
def isNoB : Option (Option Value) → Bool
  | some none => true
  | _ => false
def isTrB : Option Bool → Bool
  | some true => true
  | _ => false
theorem isRefB_of {f : Addr} : ∀ {x : Option (Option Value)}, isRefB f x = true → x = some (some (.ref f))
  | some (some (.ref g)), h => by rw [of_decide_eq_true (show decide (g = f) = true from h)]
theorem isBltB_of {n : String} : ∀ {x : Option (Option Value)}, isBltB n x = true → x = some (some (.builtin n))
  | some (some (.builtin m)), h => by rw [of_decide_eq_true (show decide (m = n) = true from h)]
theorem isNoB_of : ∀ {x : Option (Option Value)}, isNoB x = true → x = some none
  | some none, _ => rfl
theorem isTrB_of : ∀ {x : Option Bool}, isTrB x = true → x = some true
  | some true, _ => rfl
def quB (K : PySem.W.Frag) (fT fA fD CQ C : Addr) : Bool := PySem.W.plainGet K C Str.empty && (PySem.W.hasDictIn K C && (PySem.W.plainOver K C && (isBltB "object.__setattr__" (PySem.W.findIn K (.ref C) "__setattr__") && (qNames.all (fun f => isNoB (PySem.W.findIn K (.ref C) f)) && (isRefB fT (PySem.W.findIn K (.ref C) "text") && (isRefB fA (PySem.W.findIn K (.ref C) "asked_keys") && (isRefB fD (PySem.W.findIn K (.ref C) "depth") && (isBltB "object.__class__" (PySem.W.findIn K (.ref C) "__class__") && (isTrB (PySem.W.mroIn K C (.type "object")) && isTrB (PySem.W.kitOne K (.ref C) (.ref CQ)))))))))))
structure QuF (K : PySem.W.Frag) (fT fA fD CQ C : Addr) : Prop where
  qu : QuC K C
  tx : PySem.W.findIn K (.ref C) "text" = some (some (.ref fT))
  ak : PySem.W.findIn K (.ref C) "asked_keys" = some (some (.ref fA))
  dp : PySem.W.findIn K (.ref C) "depth" = some (some (.ref fD))
  ha : PySem.W.findIn K (.ref C) "__class__" = some (some (.builtin "object.__class__"))
  hm : PySem.W.mroIn K C (.type "object") = some true
  kt : PySem.W.kitOne K (.ref C) (.ref CQ) = some true
theorem quF_of {K : PySem.W.Frag} {fT fA fD CQ C : Addr} (h : quB K fT fA fD CQ C = true) : QuF K fT fA fD CQ C := by
  unfold quB at h
  simp only [Bool.and_eq_true] at h
  obtain ⟨h1, h2, h3, h4, h5, h6, h7, h8, h9, h10, h11⟩ := h
  exact ⟨⟨⟨h1, h2, h3, isBltB_of h4⟩, fun f hf => isNoB_of (List.all_eq_true.mp h5 f hf)⟩, isRefB_of h6, isRefB_of h7, isRefB_of h8, isBltB_of h9, isTrB_of h10, isTrB_of h11⟩
def strOf : Value → Option Str
  | .str x _ => some x
  | _ => none
def isTupC : Value → Bool
  | .type n => decide (n = "tuple")
  | _ => false
def seqB (ws : List Str) : PySem.Data → Bool
  | .seq its _ => decide (its.toList.map strOf = ws.map some)
  | _ => false
def tupB (K : PySem.W.Frag) (a : Addr) (ws : List Str) : Bool := match K.lookup a with
  | some o => isTupC o.cls && seqB ws o.data
  | none => false
theorem strs_vals : ∀ {us : List Value} {ws : List Str}, us.map strOf = ws.map some → Vals (ws.map V.str) us
  | [], [], _ => .nil
  | u :: us, w :: ws, h => by
    obtain ⟨h1, h2⟩ := List.cons.inj h
    refine .cons ?_ (strs_vals h2)
    cases u with
    | str x t => exact ⟨t, by rw [Option.some.inj h1]⟩
    | _ => cases h1
  | [], w :: ws, h => by cases h
  | u :: us, [], h => by cases h
theorem sqt_of {K : PySem.W.Frag} {a : Addr} {ws : List Str} (hl : ws.length ≤ 100) (h : tupB K a ws = true) (H : Hp) : SqT K H a (ws.map V.str) := by
  unfold tupB at h
  cases e : K.lookup a with
  | none => rw [e] at h; cases h
  | some o =>
    rw [e] at h
    rw [Bool.and_eq_true] at h
    obtain ⟨h1, h2⟩ := h
    have hc : o.cls = .type "tuple" := by
      cases z : o.cls with
      | type n => rw [z] at h1; rw [of_decide_eq_true (show decide (n = "tuple") = true from h1)]
      | _ => rw [z] at h1; cases h1
    cases z : o.data with
    | seq its n =>
      rw [z] at h2
      have h3 := of_decide_eq_true (show decide (its.toList.map strOf = ws.map some) = true from h2)
      have hz := congrArg List.length h3
      rw [List.length_map, List.length_map, Array.length_toList] at hz
      exact .inr ⟨o, its, n, e, hc, z, Nat.le_trans (show its.size ≤ 100 by omega) (by decide), strs_vals h3⟩
    | _ => rw [z] at h2; cases h2
theorem all_mk {l : PySem.W.OpenLaw} {w : World} {K : PySem.W.Frag} {h : Heap} {mg : Str → Option Value} {fa R CQ CB c1 c2 c3 c4 c5 c6 c7 c8 t1 t2 t3 t4 f1 f2 f3 f4 f5 f6 f7 f8 f9 f10 f11 f12 f13 f14 f15 f16 f17 f18 f19 f20 f21 f22 f23 f24 f25 f26 f27 f28 f29 f30 f31 f32 f33 f34 f35 f36 f37 f38 f39 f40 f41 f42 f43 f44 f45 f46 f47 f48 f49 f50 f51 : Addr} {d1 d2 d3 d4 d5 d6 d7 d8 d9 d10 d11 d12 d13 d14 d15 d16 d17 d18 d19 d20 d21 d22 d23 d24 d25 d26 d27 d28 d29 d30 d31 d32 d33 d34 d35 d36 d37 d38 d39 d40 d41 d42 d43 d44 d45 d46 d47 d48 d49 d50 d51 : FuncData} (X : K.In h) (G : h.Ns mainGlobals mg) (hfa : mg "law" = some (.ref fa))
    (amR : PySem.W.nsIn K mainGlobals "Reader" = some (some (.ref R)))
    (amCQ : PySem.W.nsIn K mainGlobals "Question" = some (some (.ref CQ)))
    (amCB : PySem.W.nsIn K mainGlobals "Bracketed" = some (some (.ref CB)))
    (amc1 : PySem.W.nsIn K mainGlobals "Number" = some (some (.ref c1)))
    (amc2 : PySem.W.nsIn K mainGlobals "Value" = some (some (.ref c2)))
    (amc3 : PySem.W.nsIn K mainGlobals "Gathering" = some (some (.ref c3)))
    (amc4 : PySem.W.nsIn K mainGlobals "Since" = some (some (.ref c4)))
    (amc5 : PySem.W.nsIn K mainGlobals "Part" = some (some (.ref c5)))
    (amc6 : PySem.W.nsIn K mainGlobals "Change" = some (some (.ref c6)))
    (amc7 : PySem.W.nsIn K mainGlobals "Reckoning" = some (some (.ref c7)))
    (amc8 : PySem.W.nsIn K mainGlobals "Choice" = some (some (.ref c8)))
    (a1 : PySem.W.nsIn K mainGlobals "law" = some (some (.ref f1))) (F1 : Fun K "law" "law" sLaw f1 d1)
    (a2 : PySem.W.nsIn K mainGlobals "_law_cell" = some (some (.ref f2))) (F2 : Fun K "_law_cell" "_law_cell" sCell f2 d2)
    (a3 : PySem.W.nsIn K mainGlobals "_law_begun" = some (some (.ref f3))) (F3 : Fun K "_law_begun" "_law_begun" sBegun f3 d3)
    (a4 : PySem.W.nsIn K mainGlobals "_law_mix" = some (some (.ref f4))) (F4 : Fun K "_law_mix" "_law_mix" sMix f4 d4)
    (a5 : PySem.W.nsIn K mainGlobals "_law_names" = some (some (.ref f5))) (F5 : Fun K "_law_names" "_law_names" sNames f5 d5)
    (a6 : PySem.W.nsIn K mainGlobals "_law_pull" = some (some (.ref f6))) (F6 : Fun K "_law_pull" "_law_pull" sPull f6 d6)
    (a7 : PySem.W.nsIn K mainGlobals "_law_window" = some (some (.ref f7))) (F7 : Fun K "_law_window" "_law_window" sWindow f7 d7)
    (a8 : PySem.W.nsIn K mainGlobals "_law_question" = some (some (.ref f8))) (F8 : Fun K "_law_question" "_law_question" sLq f8 d8)
    (a9 : PySem.W.nsIn K mainGlobals "_law_leaf" = some (some (.ref f9))) (F9 : Fun K "_law_leaf" "_law_leaf" sLLeaf f9 d9)
    (a10 : PySem.W.nsIn K mainGlobals "_law_some" = some (some (.ref f10))) (F10 : Fun K "_law_some" "_law_some" sSome f10 d10)
    (a11 : PySem.W.nsIn K mainGlobals "_law_days" = some (some (.ref f11))) (F11 : Fun K "_law_days" "_law_days" sDays f11 d11)
    (a12 : PySem.W.nsIn K mainGlobals "_law_amount" = some (some (.ref f12))) (F12 : Fun K "_law_amount" "_law_amount" sAmount f12 d12)
    (a13 : PySem.W.nsIn K mainGlobals "_law_fitting" = some (some (.ref f13))) (F13 : Fun K "_law_fitting" "_law_fitting" sLft f13 d13)
    (a14 : PySem.W.nsIn K mainGlobals "_law_words" = some (some (.ref f14))) (F14 : Fun K "_law_words" "_law_words" sLw f14 d14)
    (a15 : PySem.W.nsIn K mainGlobals "_law_right" = some (some (.ref f15))) (F15 : Fun K "_law_right" "_law_right" sRight f15 d15)
    (a16 : PySem.W.findIn K (.ref CQ) "text" = some (some (.ref f16))) (i16 : PySem.W.isFn K (.ref f16) = true) (F16 : Fun K "text" "Question.text" sText f16 d16)
    (a17 : PySem.W.findIn K (.ref CQ) "asked_keys" = some (some (.ref f17))) (i17 : PySem.W.isFn K (.ref f17) = true) (F17 : Fun K "asked_keys" "Question.asked_keys" sAsked f17 d17)
    (a18 : PySem.W.findIn K (.ref CQ) "depth" = some (some (.ref f18))) (i18 : PySem.W.isFn K (.ref f18) = true) (F18 : Fun K "depth" "Question.depth" sDepth f18 d18)
    (a19 : PySem.W.nsIn K mainGlobals "_law_all_names" = some (some (.ref f19))) (F19 : Fun K "_law_all_names" "_law_all_names" sLn f19 d19)
    (a20 : PySem.W.nsIn K mainGlobals "question_of" = some (some (.ref f20))) (F20 : Fun K "question_of" "question_of" sQof f20 d20)
    (a21 : PySem.W.findIn K (.ref R) "__init__" = some (some (.ref f21))) (i21 : PySem.W.isFn K (.ref f21) = true) (F21 : Fun K "__init__" "Reader.__init__" sInitR f21 d21)
    (a22 : PySem.W.nsIn K mainGlobals "question_here" = some (some (.ref f22))) (F22 : Fun K "question_here" "question_here" sQh f22 d22)
    (a23 : PySem.W.nsIn K mainGlobals "questions_here" = some (some (.ref f23))) (F23 : Fun K "questions_here" "questions_here" sQsh f23 d23)
    (a24 : PySem.W.findIn K (.ref R) "beginning_here" = some (some (.ref f24))) (i24 : PySem.W.isFn K (.ref f24) = true) (F24 : Fun K "beginning_here" "Reader.beginning_here" sBeg f24 d24)
    (a25 : PySem.W.findIn K (.ref R) "here" = some (some (.ref f25))) (i25 : PySem.W.isFn K (.ref f25) = true) (F25 : Fun K "here" "Reader.here" sHere f25 d25)
    (a26 : PySem.W.findIn K (.ref R) "go_on" = some (some (.ref f26))) (i26 : PySem.W.isFn K (.ref f26) = true) (F26 : Fun K "go_on" "Reader.go_on" sGo f26 d26)
    (a27 : PySem.W.findIn K (.ref R) "day_here" = some (some (.ref f27))) (i27 : PySem.W.isFn K (.ref f27) = true) (F27 : Fun K "day_here" "Reader.day_here" sDayH f27 d27)
    (a28 : PySem.W.findIn K (.ref R) "number_here" = some (some (.ref f28))) (i28 : PySem.W.isFn K (.ref f28) = true) (F28 : Fun K "number_here" "Reader.number_here" sNumH f28 d28)
    (a29 : PySem.W.nsIn K mainGlobals "number_of" = some (some (.ref f29))) (F29 : Fun K "number_of" "number_of" sNumber f29 d29)
    (a30 : PySem.W.nsIn K mainGlobals "has_only" = some (some (.ref f30))) (F30 : Fun K "has_only" "has_only" sHas f30 d30)
    (a31 : PySem.W.findIn K (.ref R) "keys_here" = some (some (.ref f31))) (i31 : PySem.W.isFn K (.ref f31) = true) (F31 : Fun K "keys_here" "Reader.keys_here" sKeysH f31 d31)
    (a32 : PySem.W.nsIn K mainGlobals "are_keys" = some (some (.ref f32))) (F32 : Fun K "are_keys" "are_keys" sAreKeys f32 d32)
    (a33 : PySem.W.nsIn K mainGlobals "is_name" = some (some (.ref f33))) (F33 : Fun K "is_name" "is_name" sName f33 d33)
    (a34 : PySem.W.nsIn K mainGlobals "single_here" = some (some (.ref f34))) (F34 : Fun K "single_here" "single_here" sSingle f34 d34)
    (a35 : PySem.W.findIn K (.ref R) "value_here" = some (some (.ref f35))) (i35 : PySem.W.isFn K (.ref f35) = true) (F35 : Fun K "value_here" "Reader.value_here" sValH f35 d35)
    (a36 : PySem.W.findIn K (.ref R) "key_here" = some (some (.ref f36))) (i36 : PySem.W.isFn K (.ref f36) = true) (F36 : Fun K "key_here" "Reader.key_here" sKeyH f36 d36)
    (a37 : PySem.W.findIn K (.ref c1) "__init__" = some (some (.ref f37))) (i37 : PySem.W.isFn K (.ref f37) = true) (F37 : Fun K "__init__" "Number.__init__" sINum f37 d37)
    (a38 : PySem.W.findIn K (.ref CQ) "__init__" = some (some (.ref f38))) (i38 : PySem.W.isFn K (.ref f38) = true) (F38 : Fun K "__init__" "Question.__init__" sInitQ f38 d38)
    (a39 : PySem.W.nsIn K mainGlobals "each_once" = some (some (.ref f39))) (F39 : Fun K "each_once" "each_once" sOnce f39 d39)
    (a40 : PySem.W.findIn K (.ref c2) "__init__" = some (some (.ref f40))) (i40 : PySem.W.isFn K (.ref f40) = true) (F40 : Fun K "__init__" "Value.__init__" sIVal f40 d40)
    (a41 : PySem.W.findIn K (.ref c4) "__init__" = some (some (.ref f41))) (i41 : PySem.W.isFn K (.ref f41) = true) (F41 : Fun K "__init__" "Since.__init__" sISnc f41 d41)
    (a42 : PySem.W.findIn K (.ref c5) "__init__" = some (some (.ref f42))) (i42 : PySem.W.isFn K (.ref f42) = true) (F42 : Fun K "__init__" "Part.__init__" sIPrt f42 d42)
    (a43 : PySem.W.findIn K (.ref c6) "__init__" = some (some (.ref f43))) (i43 : PySem.W.isFn K (.ref f43) = true) (F43 : Fun K "__init__" "Change.__init__" sIChg f43 d43)
    (a44 : PySem.W.findIn K (.ref c3) "__init__" = some (some (.ref f44))) (i44 : PySem.W.isFn K (.ref f44) = true) (F44 : Fun K "__init__" "Gathering.__init__" sIGth f44 d44)
    (a45 : PySem.W.findIn K (.ref c7) "__init__" = some (some (.ref f45))) (i45 : PySem.W.isFn K (.ref f45) = true) (F45 : Fun K "__init__" "Reckoning.__init__" sInitK f45 d45)
    (a46 : PySem.W.findIn K (.ref CB) "__init__" = some (some (.ref f46))) (i46 : PySem.W.isFn K (.ref f46) = true) (F46 : Fun K "__init__" "Bracketed.__init__" sInitB f46 d46)
    (a47 : PySem.W.findIn K (.ref c8) "__init__" = some (some (.ref f47))) (i47 : PySem.W.isFn K (.ref f47) = true) (F47 : Fun K "__init__" "Choice.__init__" sInitC f47 d47)
    (a48 : PySem.W.findIn K (.ref R) "bracket_opens" = some (some (.ref f48))) (i48 : PySem.W.isFn K (.ref f48) = true) (F48 : Fun K "bracket_opens" "Reader.bracket_opens" sOpens f48 d48)
    (a49 : PySem.W.findIn K (.ref R) "bracket_closes" = some (some (.ref f49))) (i49 : PySem.W.isFn K (.ref f49) = true) (F49 : Fun K "bracket_closes" "Reader.bracket_closes" sCloses f49 d49)
    (a50 : PySem.W.findIn K (.ref R) "check_end" = some (some (.ref f50))) (i50 : PySem.W.isFn K (.ref f50) = true) (F50 : Fun K "check_end" "Reader.check_end" sEnd f50 d50)
    (a51 : PySem.W.nsIn K mainGlobals "_law_depth" = some (some (.ref f51))) (F51 : Fun K "_law_depth" "_law_depth" sLdp f51 d51)
    (mkR : PySem.W.makesIn K R = true) (kpR : PySem.W.keepIn K (.ref R) = true)
    (mkc1 : PySem.W.makesIn K c1 = true) (kpc1 : PySem.W.keepIn K (.ref c1) = true)
    (mkc2 : PySem.W.makesIn K c2 = true) (kpc2 : PySem.W.keepIn K (.ref c2) = true)
    (mkc3 : PySem.W.makesIn K c3 = true) (kpc3 : PySem.W.keepIn K (.ref c3) = true)
    (mkc4 : PySem.W.makesIn K c4 = true) (kpc4 : PySem.W.keepIn K (.ref c4) = true)
    (mkc5 : PySem.W.makesIn K c5 = true) (kpc5 : PySem.W.keepIn K (.ref c5) = true)
    (mkc6 : PySem.W.makesIn K c6 = true) (kpc6 : PySem.W.keepIn K (.ref c6) = true)
    (mkc7 : PySem.W.makesIn K c7 = true) (kpc7 : PySem.W.keepIn K (.ref c7) = true)
    (mkc8 : PySem.W.makesIn K c8 = true) (kpc8 : PySem.W.keepIn K (.ref c8) = true)
    (TR : RdC K R)
    (g1CQ : PySem.W.specialIn K (.ref CQ) "__getattribute__" = some (some (.builtin "type.__getattribute__"))) (g2CQ : PySem.W.readsIn K CQ (.type "type") = true) (g3CQ : PySem.W.findCls K (.ref CQ) (.type "type") "__init__" = some (.val (.ref f38)))
    (g1CB : PySem.W.specialIn K (.ref CB) "__getattribute__" = some (some (.builtin "type.__getattribute__"))) (g2CB : PySem.W.readsIn K CB (.type "type") = true) (g3CB : PySem.W.findCls K (.ref CB) (.type "type") "__init__" = some (.val (.ref f46)))
    (tyn : PySem.W.specialIn K (.builtin "object.__class__") "__get__" = some (some (.builtin "getset_descriptor.__get__"))) (tyk : PySem.W.takesIn K (.builtin "object.__class__") = some true)
    (qb1 : quB K f16 f17 f18 CQ c1 = true)
    (qb2 : quB K f16 f17 f18 CQ c2 = true)
    (qb3 : quB K f16 f17 f18 CQ c3 = true)
    (qb4 : quB K f16 f17 f18 CQ c4 = true)
    (qb5 : quB K f16 f17 f18 CQ c5 = true)
    (qb6 : quB K f16 f17 f18 CQ c6 = true)
    (qb7 : quB K f16 f17 f18 CQ c7 = true)
    (qb8 : quB K f16 f17 f18 CQ c8 = true)
    (tn1 : PySem.W.nsIn K mainGlobals "SINGLE" = some (some (.ref t1))) (tb1 : tupB K t1 sglW = true)
    (tn2 : PySem.W.nsIn K mainGlobals "GATHERING" = some (some (.ref t2))) (tb2 : tupB K t2 gthW = true)
    (tn3 : PySem.W.nsIn K mainGlobals "RECKONING" = some (some (.ref t3))) (tb3 : tupB K t3 rckW = true)
    (tn4 : PySem.W.nsIn K mainGlobals "CHOICE" = some (some (.ref t4))) (tb4 : tupB K t4 chcW = true)
    {tq1 tq2 tq3 tq4 tq5 tq6 tq7 tq8 tq9 : Tok} (q1 : PySem.W.nsIn K mainGlobals "LETTERS" = some (some (.str letZ tq1))) (q2 : PySem.W.nsIn K mainGlobals "FIGURES" = some (some (.str figZ tq2))) (q3 : PySem.W.nsIn K mainGlobals "MOST_LETTERS" = some (some (.int 8 tq3))) (q4 : PySem.W.nsIn K mainGlobals "MOST_FIGURES" = some (some (.int 12 tq4))) (q5 : PySem.W.nsIn K mainGlobals "LAST_DAY" = some (some (.int 399 tq5))) (q6 : PySem.W.nsIn K mainGlobals "MOST_KEYS" = some (some (.int 8 tq6))) (q7 : PySem.W.nsIn K mainGlobals "MOST_VALUE" = some (some (.int 1000000000 tq7))) (q8 : PySem.W.nsIn K mainGlobals "MOST_OPEN" = some (some (.int 3 tq8))) (q9 : PySem.W.nsIn K mainGlobals "MOST_RANK" = some (some (.int 400 tq9)))
    (z1 : PySem.W.nsIn K mainGlobals "len" = some none) (z2 : PySem.W.nsIn K mainGlobals "range" = some none) (z3 : PySem.W.nsIn K mainGlobals "sorted" = some none) (z4 : PySem.W.nsIn K mainGlobals "isinstance" = some none) (z5 : PySem.W.nsIn K mainGlobals "int" = some none) (z6 : PySem.W.nsIn K mainGlobals "bool" = some none) (z7 : PySem.W.nsIn K mainGlobals "str" = some none) (z8 : PySem.W.nsIn K mainGlobals "list" = some none) (z9 : PySem.W.nsIn K mainGlobals "tuple" = some none) (z10 : PySem.W.nsIn K mainGlobals "dict" = some none) (z11 : PySem.W.nsIn K mainGlobals "set" = some none) (z12 : PySem.W.nsIn K mainGlobals "max" = some none) (z13 : PySem.W.nsIn K mainGlobals "min" = some none) (z14 : PySem.W.nsIn K mainGlobals "all" = some none) (z15 : PySem.W.nsIn K mainGlobals "enumerate" = some none) (z16 : PySem.W.nsIn K mainGlobals "abs" = some none) (z17 : PySem.W.nsIn K mainGlobals "reversed" = some none) :
    ∃ fd : FuncData, (∀ (s : Shared) (v : Value), BindsTo s fd ⟨[v], []⟩ [("_law_script", v)]) ∧ ∀ base : Heap, K.In base → base.Ns mainGlobals mg → FnOk l.prog w K mg base CX0 15 fa fd ["_law_script"] (spLaw K) := by
  have e := hfa.symm.trans (PySem.W.mg_of X G a1)
  cases e
  have N : Free mg := ⟨PySem.W.mg_none_of X G z1, PySem.W.mg_none_of X G z2, PySem.W.mg_none_of X G z3, PySem.W.mg_none_of X G z4, PySem.W.mg_none_of X G z5, PySem.W.mg_none_of X G z6, PySem.W.mg_none_of X G z7, PySem.W.mg_none_of X G z8, PySem.W.mg_none_of X G z9, PySem.W.mg_none_of X G z10, PySem.W.mg_none_of X G z11, PySem.W.mg_none_of X G z12, PySem.W.mg_none_of X G z13, PySem.W.mg_none_of X G z14, PySem.W.mg_none_of X G z15, PySem.W.mg_none_of X G z16, PySem.W.mg_none_of X G z17⟩
  have Z : Con mg := ⟨⟨_, PySem.W.mg_of X G q1⟩, ⟨_, PySem.W.mg_of X G q2⟩, ⟨_, PySem.W.mg_of X G q3⟩, ⟨_, PySem.W.mg_of X G q4⟩, ⟨_, PySem.W.mg_of X G q5⟩, ⟨_, PySem.W.mg_of X G q6⟩, ⟨_, PySem.W.mg_of X G q7⟩, ⟨_, PySem.W.mg_of X G q8⟩, ⟨_, PySem.W.mg_of X G q9⟩⟩
  have ZT : ConT K mg := ⟨⟨t1, PySem.W.mg_of X G tn1, sqt_of (by decide) tb1⟩, ⟨t2, PySem.W.mg_of X G tn2, sqt_of (by decide) tb2⟩, ⟨t3, PySem.W.mg_of X G tn3, sqt_of (by decide) tb3⟩, ⟨t4, PySem.W.mg_of X G tn4, sqt_of (by decide) tb4⟩⟩
  have QB : ∀ C ∈ Cs.all (⟨c1, c2, c3, c4, c5, c6, c7, c8⟩ : Cs), QuF K f16 f17 f18 CQ C := fun C hC => by
    simp only [Cs.all, List.mem_cons, List.not_mem_nil, or_false] at hC
    rcases hC with rfl | rfl | rfl | rfl | rfl | rfl | rfl | rfl
    · exact quF_of qb1
    · exact quF_of qb2
    · exact quF_of qb3
    · exact quF_of qb4
    · exact quF_of qb5
    · exact quF_of qb6
    · exact quF_of qb7
    · exact quF_of qb8
  obtain ⟨oc, od, kV, doc, pm, an, cdv, ct, osl, rfl, lk, hcd⟩ := id F1.ex
  refine ⟨PySem.W.fnOf "law" "law" (defArgs sLaw) (defBody sLaw) (defScope sLaw) .none kV doc pm an cdv ct, fun s v => .of_eq rfl, fun base hK hN => ?_⟩
  have ky : ∀ {x : Str} {k : Nat} {ps : List Str} {sp : Sp} {f : Addr} {fd : FuncData}, FnOk l.prog w K mg base CX0 k f fd ps sp → PySem.W.nsIn K mainGlobals x = some (some (.ref f)) → PySem.W.keepIn K (.ref f) = true → Binds K fd ps [] → Cal l.prog w K mg base x k ps sp f fd := fun a b c d => ⟨a, PySem.W.mg_of X G b, c, d⟩
  have km : ∀ {m : Str} {k : Nat} {ps : List Str} {sp : Sp} {f : Addr} {fd : FuncData}, FnOk l.prog w K mg base CX0 k f fd ps sp → PySem.W.findIn K (.ref R) m = some (some (.ref f)) → PySem.W.isFn K (.ref f) = true → PySem.W.keepIn K (.ref f) = true → Binds K fd ps [] → MC l.prog w K mg base R m k ps [] [] sp f fd := fun a b c d e => ⟨TR.cl, ⟨b, c, d⟩, a, e, .nil⟩
  have kc : ∀ {cn : Str} {k : Nat} {ps : List Str} {sp : Sp} {C f : Addr} {fd : FuncData}, FnOk l.prog w K mg base CX0 k f fd ps sp → Mk K C f → PySem.W.nsIn K mainGlobals cn = some (some (.ref C)) → Binds K fd ps [] → MkC l.prog w K mg base cn k ps sp C f fd := fun a b c d => ⟨b, a, PySem.W.mg_of X G c, d⟩
  have kg : ∀ {cn m : Str} {k : Nat} {ps : List Str} {sp : Sp} {C f : Addr} {fd : FuncData} {mc : Value}, FnOk l.prog w K mg base CX0 k f fd ps sp → PySem.W.nsIn K mainGlobals cn = some (some (.ref C)) → PySem.W.specialIn K (.ref C) "__getattribute__" = some (some (.builtin "type.__getattribute__")) → PySem.W.readsIn K C mc = true → PySem.W.findCls K (.ref C) mc m = some (.val (.ref f)) → PySem.W.keepIn K (.ref f) = true → Binds K fd ps [] → CMc l.prog w K mg base cn m k ps sp C f fd mc := fun a b c d e g i => ⟨PySem.W.mg_of X G b, c, d, e, a, g, i⟩
  have K1 := ky (ok_cell F2 N) a2 F2.kp (F2.binds fun _ _ _ _ _ _ => ar2 fun _ _ => rfl)
  have K2 := ky (ok_begun F3) a3 F3.kp (F3.binds fun _ _ _ _ _ _ => ar1 fun _ => rfl)
  have K3 := ky (ok_mix F4) a4 F4.kp (F4.binds fun _ _ _ _ _ _ => ar2 fun _ _ => rfl)
  have K4 := ky (ok_pull F6 K3) a6 F6.kp (F6.binds fun _ _ _ _ _ _ => ar2 fun _ _ => rfl)
  have K5 := ky (ok_names F5 N K2 K4) a5 F5.kp (F5.binds fun _ _ _ _ _ _ => ar1 fun _ => rfl)
  have K6 := ky (ok_window F7 K4) a7 F7.kp (F7.binds fun _ _ _ _ _ _ => ar1 fun _ => rfl)
  have K7 := ky (ok_some F10 N K4) a10 F10.kp (F10.binds fun _ _ _ _ _ _ => ar3 fun _ _ _ => rfl)
  have K8 := ky (ok_days F11 K4) a11 F11.kp (F11.binds fun _ _ _ _ _ _ => ar2 fun _ _ => rfl)
  have K9 := ky (ok_amount F12 K4) a12 F12.kp (F12.binds fun _ _ _ _ _ _ => ar1 fun _ => rfl)
  have K10 := ky (ok_lLeaf F9 N K4 K7 K8 K9) a9 F9.kp (F9.binds fun _ _ _ _ _ _ => ar4 fun _ _ _ _ => rfl)
  have K11 := ky (ok_lq3 F8 (PySem.W.mg_of X G a8) (F8.binds fun _ _ _ _ _ _ => ar4 fun _ _ _ _ => rfl) N K4 K10) a8 F8.kp (F8.binds fun _ _ _ _ _ _ => ar4 fun _ _ _ _ => rfl)
  have K12 := ky (ok_lwE F14 (PySem.W.mg_of X G a14) (F14.binds fun _ _ _ _ _ _ => ar1 fun _ => rfl) N) a14 F14.kp (F14.binds fun _ _ _ _ _ _ => ar1 fun _ => rfl)
  have K13 := ky (ok_lft F13 N K12) a13 F13.kp (F13.binds fun _ _ _ _ _ _ => ar1 fun _ => rfl)
  have K14 : ∀ C ∈ Cs.all (⟨c1, c2, c3, c4, c5, c6, c7, c8⟩ : Cs), MV l.prog w K mg base CX0 "text" 1 ["self"] (spText K) C := fun C hC => ⟨(QB C hC).qu.cl, f16, d16, ⟨(QB C hC).tx, i16, F16.kp⟩, (ok_text F16), (F16.binds fun _ _ _ _ _ _ => ar1 fun _ => rfl)⟩
  have K15 : ∀ C ∈ Cs.all (⟨c1, c2, c3, c4, c5, c6, c7, c8⟩ : Cs), MV l.prog w K mg base CX0 "asked_keys" 1 ["self"] (spAsked K) C := fun C hC => ⟨(QB C hC).qu.cl, f17, d17, ⟨(QB C hC).ak, i17, F17.kp⟩, (ok_asked F17 N), (F17.binds fun _ _ _ _ _ _ => ar1 fun _ => rfl)⟩
  have K16 : ∀ C ∈ Cs.all (⟨c1, c2, c3, c4, c5, c6, c7, c8⟩ : Cs), MV l.prog w K mg base CX0 "depth" 1 ["self"] (spDepthQ K) C := fun C hC => ⟨(QB C hC).qu.cl, f18, d18, ⟨(QB C hC).dp, i18, F18.kp⟩, (ok_depthQ F18), (F18.binds fun _ _ _ _ _ _ => ar1 fun _ => rfl)⟩
  have K17 := ky (ok_lnE F19 (PySem.W.mg_of X G a19) (F19.binds fun _ _ _ _ _ _ => ar1 fun _ => rfl) N) a19 F19.kp (F19.binds fun _ _ _ _ _ _ => ar1 fun _ => rfl)
  have K18 := kc (ok_initR F21 N TR) ⟨mkR, a21, i21, kpR⟩ amR (F21.binds fun _ _ _ _ _ _ => ar2 fun _ _ => rfl)
  have K19 := km (ok_here F25 N TR) a25 i25 F25.kp (F25.binds fun _ _ _ _ _ _ => ar1 fun _ => rfl)
  have K20 := km (ok_go F26 N TR) a26 i26 F26.kp (F26.binds fun _ _ _ _ _ _ => ar2 fun _ _ => rfl)
  have K21 := km (ok_beg F24 N ZT TR K19 K20) a24 i24 F24.kp (F24.binds fun _ _ _ _ _ _ => ar1 fun _ => rfl)
  have K22 := ky (ok_has F30 N) a30 F30.kp (F30.binds fun _ _ _ _ _ _ => ar3 fun _ _ _ => rfl)
  have K23 := ky (ok_number F29 N Z K22) a29 F29.kp (F29.binds fun _ _ _ _ _ _ => ar3 fun _ _ _ => rfl)
  have K24 := km (ok_numH F28 N TR K19 K20 K23) a28 i28 F28.kp (F28.binds fun _ _ _ _ _ _ => ar3 fun _ _ _ => rfl)
  have K25 := km (ok_dayH F27 N Z TR K24) a27 i27 F27.kp (F27.binds fun _ _ _ _ _ _ => ar2 fun _ _ => rfl)
  have K26 := ky (ok_name F33 N Z K22) a33 F33.kp (F33.binds fun _ _ _ _ _ _ => ar1 fun _ => rfl)
  have K27 := ky (ok_areKeys F32 N Z K26) a32 F32.kp (F32.binds fun _ _ _ _ _ _ => ar1 fun _ => rfl)
  have K28 := km (ok_keysH F31 N TR K19 K20 K27) a31 i31 F31.kp (F31.binds fun _ _ _ _ _ _ => ar1 fun _ => rfl)
  have K29 := km (ok_valH F35 N Z TR K24) a35 i35 F35.kp (F35.binds fun _ _ _ _ _ _ => ar1 fun _ => rfl)
  have K30 := km (ok_keyH F36 N TR K19 K20 K26) a36 i36 F36.kp (F36.binds fun _ _ _ _ _ _ => ar1 fun _ => rfl)
  have K31 := ky (ok_once F39) a39 F39.kp (F39.binds fun _ _ _ _ _ _ => ar1 fun _ => rfl)
  have K32 := kg (ok_initQ F38 N K31) amCQ g1CQ g2CQ g3CQ F38.kp (F38.binds fun _ _ _ _ _ _ => ar4 fun _ _ _ _ => rfl)
  have K33 := kc (ok_iNum F37 N K32) ⟨mkc1, a37, i37, kpc1⟩ amc1 (F37.binds fun _ _ _ _ _ _ => ar2 fun _ _ => rfl)
  have K34 := kc (ok_iVal F40 N K32) ⟨mkc2, a40, i40, kpc2⟩ amc2 (F40.binds fun _ _ _ _ _ _ => ar3 fun _ _ _ => rfl)
  have K35 := kc (ok_iSnc F41 N K32) ⟨mkc4, a41, i41, kpc4⟩ amc4 (F41.binds fun _ _ _ _ _ _ => ar5 fun _ _ _ _ _ => rfl)
  have K36 := kc (ok_iPrt F42 N K32) ⟨mkc5, a42, i42, kpc5⟩ amc5 (F42.binds fun _ _ _ _ _ _ => ar5 fun _ _ _ _ _ => rfl)
  have K37 := kc (ok_iChg F43 N K32) ⟨mkc6, a43, i43, kpc6⟩ amc6 (F43.binds fun _ _ _ _ _ _ => ar5 fun _ _ _ _ _ => rfl)
  have K38 := ky (ok_single (c := (⟨c1, c2, c3, c4, c5, c6, c7, c8⟩ : Cs)) F34 N Z (fun C hC => (QB C hC).qu) K29 K25 K30 K24 K33 K34 K35 K36 K37) a34 F34.kp (F34.binds fun _ _ _ _ _ _ => ar2 fun _ _ => rfl)
  have K39 := kc (ok_iGth F44 N K32) ⟨mkc3, a44, i44, kpc3⟩ amc3 (F44.binds fun _ _ _ _ _ _ => ar5 fun _ _ _ _ _ => rfl)
  have K40 := kg (ok_initB (c := (⟨c1, c2, c3, c4, c5, c6, c7, c8⟩ : Cs)) F46 N K32 (fun C hC => (QB C hC).qu) K14 K15 K16) amCB g1CB g2CB g3CB F46.kp (F46.binds fun _ _ _ _ _ _ => ar3 fun _ _ _ => rfl)
  have K41 := kc (ok_initK (c := (⟨c1, c2, c3, c4, c5, c6, c7, c8⟩ : Cs)) F45 N K40) ⟨mkc7, a45, i45, kpc7⟩ amc7 (F45.binds fun _ _ _ _ _ _ => ar4 fun _ _ _ _ => rfl)
  have K42 := kc (ok_initC (c := (⟨c1, c2, c3, c4, c5, c6, c7, c8⟩ : Cs)) F47 N K40) ⟨mkc8, a47, i47, kpc8⟩ amc8 (F47.binds fun _ _ _ _ _ _ => ar6 fun _ _ _ _ _ _ => rfl)
  have K43 := km (ok_opens F48 N Z TR K19 K20) a48 i48 F48.kp (F48.binds fun _ _ _ _ _ _ => ar1 fun _ => rfl)
  have K44 := km (ok_closes F49 N TR K19 K20) a49 i49 F49.kp (F49.binds fun _ _ _ _ _ _ => ar1 fun _ => rfl)
  have K45 := ky (ok_qhE (c := (⟨c1, c2, c3, c4, c5, c6, c7, c8⟩ : Cs)) F22 (PySem.W.mg_of X G a22) (F22.binds fun _ _ _ _ _ _ => ar1 fun _ => rfl) F23 (PySem.W.mg_of X G a23) (F23.binds fun _ _ _ _ _ _ => ar2 fun _ _ => rfl) N ZT (fun C hC => (QB C hC).qu) K21 K25 K28 K38 K39 K41 K42 K43 K44) a22 F22.kp (F22.binds fun _ _ _ _ _ _ => ar1 fun _ => rfl)
  have K46 := km (ok_end F50 N TR) a50 i50 F50.kp (F50.binds fun _ _ _ _ _ _ => ar1 fun _ => rfl)
  have K47 := ky (ok_qof (c := (⟨c1, c2, c3, c4, c5, c6, c7, c8⟩ : Cs)) F20 N K18 K45 K46) a20 F20.kp (F20.binds fun _ _ _ _ _ _ => ar1 fun _ => rfl)
  have K48 := ky (ok_ldp F51 N) a51 F51.kp (F51.binds fun _ _ _ _ _ _ => ar1 fun _ => rfl)
  have K49 := ky (ok_right (c := (⟨c1, c2, c3, c4, c5, c6, c7, c8⟩ : Cs)) F15 N (fun C hC => (QB C hC).qu) K14 K15 K16 (PySem.W.mg_of X G amCQ) (fun C hC => ⟨fun H a dx fs e => TyOf.ins e (QB C hC).qu.cl (QB C hC).ha tyn tyk (QB C hC).hm, (QB C hC).kt⟩) K17 K47 K48 K12) a15 F15.kp (F15.binds fun _ _ _ _ _ _ => ar2 fun _ _ => rfl)
  exact ok_law F1 N K1 K2 K3 K5 K6 K11 K13 K12 K49
theorem walk {l : PySem.W.OpenLaw} {q : Program} {loose : List Str} {XP : (Str → Option Value) → Heap → Prop} {YP : World → Heap → Prop} {d : DefRec} {K : Params → PySem.W.Frag} (hn : l.most = some 63) (hdf : d.params.defaults = [])
    (hY : ∀ (w : World) (h : Heap), YP w h → (K w.params).In h)
    (F : ∀ (w : World) (mg : Str → Option Value) (fa : Addr) (h : Heap), (K w.params).In h → h.Ns mainGlobals mg → mg d.name = some (.ref fa) →
      ∃ fd : FuncData, (∀ (s : Shared) (u : Value), BindsTo s fd ⟨[u], []⟩ [("_law_script", u)]) ∧
        ∀ base : Heap, (K w.params).In base → base.Ns mainGlobals mg → FnOk l.prog w (K w.params) mg base CX0 15 fa fd ["_law_script"] (spLaw (K w.params))) :
    PySem.W.WalkO q loose XP YP l.row.toRowW d [] (fun f vs => PySem.call f vs) :=
  walk_ofK (n := 63) (k := 15) (x := "_law_script") (CX := CX0) (sp := fun K => spLaw K) hn (by decide) hdf ⟨rfl, by decide, by decide, rfl⟩ hY F (fun K H a ns hl hO hS => ⟨a, ns, rfl, hS, hl, fun _ => rfl⟩) fun _ _ _ _ h => h
end Mine
open PySem PySem.W PyProof.Rows
namespace PySem.W.Fast
theorem tw15498247708121004929:True:=⟨⟩
theorem tw12152205020633717479:True:=⟨⟩
theorem tw1702847621416958982:True:=⟨⟩
theorem tw12958024706233849778:True:=⟨⟩
theorem tw7129018933289580236:True:=⟨⟩
theorem tw13207045124351107635:True:=⟨⟩
theorem tw7275120846515104274:True:=⟨⟩
theorem tw15609697255842896504:True:=⟨⟩
theorem tw5960755791794395558:True:=⟨⟩
theorem tw14387313351120364257:True:=⟨⟩
theorem tw409787041350916680:True:=⟨⟩
theorem tw9662212025276693112:True:=⟨⟩
theorem tw15883314420202163724:True:=⟨⟩
theorem tw10541632352140529608:True:=⟨⟩
theorem tw13019900903518333147:True:=⟨⟩
theorem tw4084056210547541688:True:=⟨⟩
theorem tw14857710791390197288:True:=⟨⟩
theorem tw4120319843586007257:True:=⟨⟩
theorem tw4339571754361072393:True:=⟨⟩
theorem tw7269907959158172312:True:=⟨⟩
theorem tw3829480217602508095:True:=⟨⟩
theorem tw1662358163294021188:True:=⟨⟩
theorem tw11185974371769069635:True:=⟨⟩
theorem tw15514477534683492522:True:=⟨⟩
theorem tw17749500182301919328:True:=⟨⟩
theorem tw15731592835370315519:True:=⟨⟩
theorem tw13762687937455047330:True:=⟨⟩
theorem tw12216236016016297743:True:=⟨⟩
theorem tw16459700611443508570:True:=⟨⟩
theorem tw6176784063072482789:True:=⟨⟩
theorem tw15072648646305980730:True:=⟨⟩
theorem tw2250671032456928536:True:=⟨⟩
theorem tw3375512733334522061:True:=⟨⟩
theorem tw7812252810931963181:True:=⟨⟩
theorem tw13973036808618936984:True:=⟨⟩
theorem tw9013265305453285608:True:=⟨⟩
theorem tw17387029145529608449:True:=⟨⟩
theorem tw14424201005858795653:True:=⟨⟩
theorem tw13375674132377251020:True:=⟨⟩
theorem tw10050825440584443495:True:=⟨⟩
theorem tw5341297143517114292:True:=⟨⟩
theorem tw7641015369716850705:True:=⟨⟩
theorem tw15499410375031620002:True:=⟨⟩
theorem tw15931370701558627608:True:=⟨⟩
theorem tw549090772726374603:True:=⟨⟩
theorem tw16940278916987717531:True:=⟨⟩
theorem tw3757942333701214506:True:=⟨⟩
theorem tw11919861899758507799:True:=⟨⟩
theorem tw1217714953432523099:True:=⟨⟩
theorem tw11666554865766705536:True:=⟨⟩
theorem tw13205925875415122440:True:=⟨⟩
theorem tw13293932160918359563:True:=⟨⟩
theorem tw14861841932727810494:True:=⟨⟩
theorem tw4484941904003661071:True:=⟨⟩
theorem tw17282771687137014901:True:=⟨⟩
theorem tw2730118465096429416:True:=⟨⟩
theorem tw12233034314723614277:True:=⟨⟩
theorem tw4675265170643622207:True:=⟨⟩
theorem tw13511293975503150930:True:=⟨⟩
theorem tw12459198788807673374:True:=⟨⟩
theorem tw9549039130209651830:True:=⟨⟩
theorem tw12428314821294506035:True:=⟨⟩
theorem tw15720605833371592885:True:=⟨⟩
theorem tw1817879783742633812:True:=⟨⟩
theorem tw7037697012754792162:True:=⟨⟩
theorem tw5558701819718333750:True:=⟨⟩
theorem tw7826943284446923670:True:=⟨⟩
theorem tw7684849711556306390:True:=⟨⟩
theorem tw778173746352675375:True:=⟨⟩
theorem tw10775987247553536687:True:=⟨⟩
theorem tw6012617510230453753:True:=⟨⟩
theorem tw5439618867495930258:True:=⟨⟩
theorem tw11907996627630937346:True:=⟨⟩
theorem tw9542059380791142205:True:=⟨⟩
theorem tw17455559465784761950:True:=⟨⟩
theorem tw9282401074807003928:True:=⟨⟩
theorem tw1896099477193135043:True:=⟨⟩
theorem tw3950794483197160328:True:=⟨⟩
theorem tw5138919689176380799:True:=⟨⟩
theorem tw7624338783643304606:True:=⟨⟩
theorem tw15793608498533273430:True:=⟨⟩
theorem tw10195009513137535910:True:=⟨⟩
theorem tw7189719637477296365:True:=⟨⟩
theorem tw14906134579261421135:True:=⟨⟩
theorem tw7830421016613920559:True:=⟨⟩
theorem tw9337625425145175523:True:=⟨⟩
theorem tw12204877470387534674:True:=⟨⟩
theorem tw16902396652649398543:True:=⟨⟩
theorem tw1724166810128659661:True:=⟨⟩
theorem tw13474630769289665894:True:=⟨⟩
theorem tw8631701706864791:True:=⟨⟩
theorem tw11772670695627428850:True:=⟨⟩
theorem tw8439299254132097310:True:=⟨⟩
theorem tw15654357053884284961:True:=⟨⟩
theorem tw7405008487515398269:True:=⟨⟩
theorem tw9098942307557918599:True:=⟨⟩
theorem tw7303308911077014096:True:=⟨⟩
theorem tw9343878625590846080:True:=⟨⟩
theorem tw1997657395309701588:True:=⟨⟩
theorem tw9692297642023997424:True:=⟨⟩
theorem tw12734217820944430216:True:=⟨⟩
theorem tw12512555638629114476:True:=⟨⟩
theorem tw17680075932850649914:True:=⟨⟩
theorem tw11306821713841018451:True:=⟨⟩
theorem tw14935902587175895037:True:=⟨⟩
theorem tw1385194899055227180:True:=⟨⟩
theorem tw1009097701981614604:True:=⟨⟩
theorem tw2215457805871200892:True:=⟨⟩
theorem tw17368671808535410512:True:=⟨⟩
theorem tw11549849599011130619:True:=⟨⟩
theorem tw3143268247464408837:True:=⟨⟩
theorem tw1104069434937014130:True:=⟨⟩
theorem tw537111878270007850:True:=⟨⟩
theorem tw11797733944569406794:True:=⟨⟩
theorem tw14321656638872768347:True:=⟨⟩
theorem tw15406479927509651143:True:=⟨⟩
theorem tw2575239123166108664:True:=⟨⟩
theorem tw8547565798627052253:True:=⟨⟩
theorem tw8969544861852489617:True:=⟨⟩
theorem tw15063626286877987306:True:=⟨⟩
theorem tw16825842076444504369:True:=⟨⟩
theorem tw1138662448776384127:True:=⟨⟩
theorem tw11292010894328645:True:=⟨⟩
theorem tw11513878054019005977:True:=⟨⟩
theorem tw14032863287460172491:True:=⟨⟩
theorem tw8350964571909216041:True:=⟨⟩
theorem tw11321482530145557991:True:=⟨⟩
theorem tw6277707174712162350:True:=⟨⟩
theorem tw17875557463927752184:True:=⟨⟩
theorem tw6827691945274818071:True:=⟨⟩
theorem tw14530137374579577374:True:=⟨⟩
theorem tw16410327244739816416:True:=⟨⟩
theorem tw3702698943997950903:True:=⟨⟩
theorem tw13691074539381148939:True:=⟨⟩
theorem tw5360232274661999837:True:=⟨⟩
theorem tw880408881108578767:True:=⟨⟩
theorem tw14550317074543761830:True:=⟨⟩
theorem tw12058486647652958976:True:=⟨⟩
theorem tw17559638021006202846:True:=⟨⟩
theorem tw15165065865419265311:True:=⟨⟩
theorem tw1922608888997117597:True:=⟨⟩
theorem tw15938714322237996756:True:=⟨⟩
theorem tw8024081618093067124:True:=⟨⟩
theorem tw8346048780040286596:True:=⟨⟩
theorem tw17123862309343249092:True:=⟨⟩
theorem tw11884331274330033077:True:=⟨⟩
theorem tw16908728123318843423:True:=⟨⟩
theorem tw1727808475642563037:True:=⟨⟩
theorem tw14658270406634063593:True:=⟨⟩
theorem tw12681350865447604048:True:=⟨⟩
theorem tw5156199309013413403:True:=⟨⟩
theorem tw18360289606264125636:True:=⟨⟩
theorem tw11696121260757963775:True:=⟨⟩
theorem tw7356891106190652888:True:=⟨⟩
theorem tw13160794359651444397:True:=⟨⟩
theorem tw6000780817358325431:True:=⟨⟩
theorem tw4236399786832212389:True:=⟨⟩
theorem tw12318174847053644875:True:=⟨⟩
theorem tw13203441280439245117:True:=⟨⟩
theorem tw241313893699902727:True:=⟨⟩
theorem tw7234876575085332556:True:=⟨⟩
theorem tw2439173884470363996:True:=⟨⟩
theorem tw4160877571307179844:True:=⟨⟩
theorem tw5331530803721110986:True:=⟨⟩
theorem tw6236377719798439707:True:=⟨⟩
theorem tw10485786365313837276:True:=⟨⟩
theorem tw12414580308217560777:True:=⟨⟩
theorem tw2165487243605426918:True:=⟨⟩
theorem tw18275306541136177470:True:=⟨⟩
theorem tw13049401199301862379:True:=⟨⟩
theorem tw7852631743685794392:True:=⟨⟩
theorem tw7883472303654192427:True:=⟨⟩
theorem tw243752662339307860:True:=⟨⟩
theorem tw17642714518417671506:True:=⟨⟩
theorem tw245506734955240212:True:=⟨⟩
theorem tw16703453564134123339:True:=⟨⟩
theorem tw11280258030330023639:True:=⟨⟩
theorem tw13975480346181111711:True:=⟨⟩
theorem tw4216441387779026780:True:=⟨⟩
theorem tw15152546459590033311:True:=⟨⟩
theorem tw17844872919854888859:True:=⟨⟩
theorem tw7575409132395619133:True:=⟨⟩
theorem tw8018983228565950488:True:=⟨⟩
theorem tw11079075346774545531:True:=⟨⟩
theorem tw14815625080805422276:True:=⟨⟩
theorem tw1013207641832435563:True:=⟨⟩
theorem tw3225598072294226298:True:=⟨⟩
theorem tw10470806734337901460:True:=⟨⟩
theorem tw645283723855933963:True:=⟨⟩
theorem tw2583401784493489957:True:=⟨⟩
theorem tw17645318205443214823:True:=⟨⟩
theorem tw11953480713572074153:True:=⟨⟩
theorem tw4990421304381342465:True:=⟨⟩
theorem tw17814926402616817207:True:=⟨⟩
theorem tw4951169069710759233:True:=⟨⟩
theorem tw9391605576364719338:True:=⟨⟩
theorem tw14082223374842152827:True:=⟨⟩
theorem tw13677495920745595344:True:=⟨⟩
theorem tw17335348906781670319:True:=⟨⟩
theorem tw223262068662992793:True:=⟨⟩
theorem tw15081512527617503605:True:=⟨⟩
theorem tw15563146342087324488:True:=⟨⟩
theorem tw13012415550515550093:True:=⟨⟩
theorem tw3531617450125723596:True:=⟨⟩
theorem tw9931489970644324703:True:=⟨⟩
theorem tw16518134682472382776:True:=⟨⟩
theorem tw4135080279514702432:True:=⟨⟩
theorem tw17743491369152324304:True:=⟨⟩
theorem tw8326662617106619804:True:=⟨⟩
theorem tw14289503867631051706:True:=⟨⟩
theorem tw10369068501549606981:True:=⟨⟩
theorem tw9819554394004732197:True:=⟨⟩
theorem tw15092524552909814347:True:=⟨⟩
theorem tw3032886817742617381:True:=⟨⟩
theorem tw7161862628972309558:True:=⟨⟩
theorem tw14755642266580034418:True:=⟨⟩
theorem tw7679680921383690484:True:=⟨⟩
theorem tw5299771565979055167:True:=⟨⟩
theorem tw3840771251032542574:True:=⟨⟩
theorem tw12285506044974890830:True:=⟨⟩
theorem tw2490679227718869790:True:=⟨⟩
theorem tw16393831628146771870:True:=⟨⟩
theorem tw11628108930082355798:True:=⟨⟩
theorem tw14820286133106375206:True:=⟨⟩
theorem tw4738789189472479925:True:=⟨⟩
theorem tw5621041279528717324:True:=⟨⟩
theorem tw18272752167833401778:True:=⟨⟩
theorem tw6336104952048320449:True:=⟨⟩
theorem tw4405212650330152929:True:=⟨⟩
theorem tw14374585303914546772:True:=⟨⟩
theorem tw10607475316547725608:True:=⟨⟩
theorem tw6593739610199360555:True:=⟨⟩
theorem tw11108496655536867216:True:=⟨⟩
theorem tw7266201663472985160:True:=⟨⟩
theorem tw6073690121804439835:True:=⟨⟩
theorem tw9176582435247336895:True:=⟨⟩
theorem tw2024192365175489627:True:=⟨⟩
theorem tw6032168527646139804:True:=⟨⟩
theorem tw6943302493781601756:True:=⟨⟩
theorem tw5414846324749952795:True:=⟨⟩
theorem tw5266763930760000165:True:=⟨⟩
theorem tw303023769313585196:True:=⟨⟩
theorem tw9340683124931331252:True:=⟨⟩
theorem tw13904158800017831722:True:=⟨⟩
theorem tw6028241952137024314:True:=⟨⟩
theorem tw13488995261455761837:True:=⟨⟩
theorem tw399388002758176596:True:=⟨⟩
theorem tw3698542991100186359:True:=⟨⟩
theorem tw7841158439267418562:True:=⟨⟩
theorem tw8919709144924768536:True:=⟨⟩
theorem tw12502089094925105905:True:=⟨⟩
theorem tw1030111756753279478:True:=⟨⟩
theorem tw15259907961892909440:True:=⟨⟩
theorem tw6897450475789514285:True:=⟨⟩
theorem tw670842643881348434:True:=⟨⟩
theorem tw2585400033834981572:True:=⟨⟩
theorem tw17099137727892471174:True:=⟨⟩
theorem tw17851041216263253911:True:=⟨⟩
theorem tw1951394657147684387:True:=⟨⟩
theorem tw10318883027480060546:True:=⟨⟩
theorem tw10395912395226148773:True:=⟨⟩
theorem tw7948328243583262149:True:=⟨⟩
theorem tw16308876617535726413:True:=⟨⟩
theorem tw13802625592368885712:True:=⟨⟩
theorem tw1336722723308396404:True:=⟨⟩
theorem tw6588548635654614597:True:=⟨⟩
theorem tw17224100755150614930:True:=⟨⟩
theorem tw16232678211541009350:True:=⟨⟩
theorem tw5062950303957664620:True:=⟨⟩
theorem tw1998286072695517019:True:=⟨⟩
theorem tw14583018316419448430:True:=⟨⟩
theorem tw13562169596363049293:True:=⟨⟩
theorem tw12350581436295729984:True:=⟨⟩
theorem tw2170626251870447067:True:=⟨⟩
theorem tw11158106058062052124:True:=⟨⟩
theorem tw12995820134716579078:True:=⟨⟩
theorem tw541474851847590117:True:=⟨⟩
theorem tw9634606728982295283:True:=⟨⟩
theorem tw15740656921291348094:True:=⟨⟩
theorem tw242000789178305497:True:=⟨⟩
theorem tw2770581649131553100:True:=⟨⟩
theorem tw14947791367073264107:True:=⟨⟩
theorem tw17525785066188752912:True:=⟨⟩
theorem tw18148940767055929898:True:=⟨⟩
theorem tw516501959415556333:True:=⟨⟩
theorem tw14131778144882301988:True:=⟨⟩
theorem tw16374324830084896004:True:=⟨⟩
theorem tw7209663614272462053:True:=⟨⟩
theorem tw5030429482195516054:True:=⟨⟩
theorem tw16276611352987709177:True:=⟨⟩
theorem tw6206510372573306975:True:=⟨⟩
theorem tw3206105744341190442:True:=⟨⟩
theorem tw12862394949521783902:True:=⟨⟩
theorem tw85253483236748233:True:=⟨⟩
theorem tw8531996660622797928:True:=⟨⟩
theorem tw11269711801260985095:True:=⟨⟩
theorem tw10321589228470150186:True:=⟨⟩
theorem tw8258324875766520181:True:=⟨⟩
theorem tw12787251062285563297:True:=⟨⟩
theorem tw16487232076788749723:True:=⟨⟩
theorem tw577766011344920324:True:=⟨⟩
theorem tw311392245296920728:True:=⟨⟩
theorem tw11255616197841141172:True:=⟨⟩
theorem tw18065183859379904716:True:=⟨⟩
theorem tw4374943379465360517:True:=⟨⟩
theorem tw2300105502955079178:True:=⟨⟩
theorem tw15952535523079573218:True:=⟨⟩
theorem tw9408498158705337485:True:=⟨⟩
theorem tw11197679428485319985:True:=⟨⟩
theorem tw12519363308169223631:True:=⟨⟩
theorem tw7348370643799476538:True:=⟨⟩
theorem tw10858609524084974268:True:=⟨⟩
theorem tw3334205627145495305:True:=⟨⟩
theorem tw13821634011369089115:True:=⟨⟩
theorem tw6583533196800701719:True:=⟨⟩
theorem tw10929804970473196461:True:=⟨⟩
theorem tw4471405290620840009:True:=⟨⟩
theorem tw11566574687997822772:True:=⟨⟩
theorem tw1912310238772990302:True:=⟨⟩
theorem tw10363522590000879575:True:=⟨⟩
theorem tw5645227887760648895:True:=⟨⟩
theorem tw3461728830035665010:True:=⟨⟩
theorem tw2514178150140911546:True:=⟨⟩
theorem tw13934123579579447738:True:=⟨⟩
end PySem.W.Fast
set_option maxRecDepth 100000 in
set_option maxHeartbeats 0 in
theorem PySem.Challenge.cw_unsaybook_k31_questions_as_texts_holds : PySem.Challenge.rw_unsaybook_k31_questions_as_texts.Holds := by
  w_on; o_law; k_head; (case hw => w_witness2)
  k_fill
  refine' Mine.walk (l := PySem.Challenge.rw_unsaybook_k31_questions_as_texts) rfl rfl (fun w h Y => PySem.W.kIn_of Y) ?F
  case F =>
    intro w mg fa h KX G hmg
    refine' Mine.all_mk KX G hmg ?amR ?amCQ ?amCB ?amc1 ?amc2 ?amc3 ?amc4 ?amc5 ?amc6 ?amc7 ?amc8 ?a1 (L2.fun_mk ?l1 ?e1 ?k1) ?a2 (L2.fun_mk ?l2 ?e2 ?k2) ?a3 (L2.fun_mk ?l3 ?e3 ?k3) ?a4 (L2.fun_mk ?l4 ?e4 ?k4) ?a5 (L2.fun_mk ?l5 ?e5 ?k5) ?a6 (L2.fun_mk ?l6 ?e6 ?k6) ?a7 (L2.fun_mk ?l7 ?e7 ?k7) ?a8 (L2.fun_mk ?l8 ?e8 ?k8) ?a9 (L2.fun_mk ?l9 ?e9 ?k9) ?a10 (L2.fun_mk ?l10 ?e10 ?k10) ?a11 (L2.fun_mk ?l11 ?e11 ?k11) ?a12 (L2.fun_mk ?l12 ?e12 ?k12) ?a13 (L2.fun_mk ?l13 ?e13 ?k13) ?a14 (L2.fun_mk ?l14 ?e14 ?k14) ?a15 (L2.fun_mk ?l15 ?e15 ?k15) ?a16 ?i16 (L2.fun_mk ?l16 ?e16 ?k16) ?a17 ?i17 (L2.fun_mk ?l17 ?e17 ?k17) ?a18 ?i18 (L2.fun_mk ?l18 ?e18 ?k18) ?a19 (L2.fun_mk ?l19 ?e19 ?k19) ?a20 (L2.fun_mk ?l20 ?e20 ?k20) ?a21 ?i21 (L2.fun_mk ?l21 ?e21 ?k21) ?a22 (L2.fun_mk ?l22 ?e22 ?k22) ?a23 (L2.fun_mk ?l23 ?e23 ?k23) ?a24 ?i24 (L2.fun_mk ?l24 ?e24 ?k24) ?a25 ?i25 (L2.fun_mk ?l25 ?e25 ?k25) ?a26 ?i26 (L2.fun_mk ?l26 ?e26 ?k26) ?a27 ?i27 (L2.fun_mk ?l27 ?e27 ?k27) ?a28 ?i28 (L2.fun_mk ?l28 ?e28 ?k28) ?a29 (L2.fun_mk ?l29 ?e29 ?k29) ?a30 (L2.fun_mk ?l30 ?e30 ?k30) ?a31 ?i31 (L2.fun_mk ?l31 ?e31 ?k31) ?a32 (L2.fun_mk ?l32 ?e32 ?k32) ?a33 (L2.fun_mk ?l33 ?e33 ?k33) ?a34 (L2.fun_mk ?l34 ?e34 ?k34) ?a35 ?i35 (L2.fun_mk ?l35 ?e35 ?k35) ?a36 ?i36 (L2.fun_mk ?l36 ?e36 ?k36) ?a37 ?i37 (L2.fun_mk ?l37 ?e37 ?k37) ?a38 ?i38 (L2.fun_mk ?l38 ?e38 ?k38) ?a39 (L2.fun_mk ?l39 ?e39 ?k39) ?a40 ?i40 (L2.fun_mk ?l40 ?e40 ?k40) ?a41 ?i41 (L2.fun_mk ?l41 ?e41 ?k41) ?a42 ?i42 (L2.fun_mk ?l42 ?e42 ?k42) ?a43 ?i43 (L2.fun_mk ?l43 ?e43 ?k43) ?a44 ?i44 (L2.fun_mk ?l44 ?e44 ?k44) ?a45 ?i45 (L2.fun_mk ?l45 ?e45 ?k45) ?a46 ?i46 (L2.fun_mk ?l46 ?e46 ?k46) ?a47 ?i47 (L2.fun_mk ?l47 ?e47 ?k47) ?a48 ?i48 (L2.fun_mk ?l48 ?e48 ?k48) ?a49 ?i49 (L2.fun_mk ?l49 ?e49 ?k49) ?a50 ?i50 (L2.fun_mk ?l50 ?e50 ?k50) ?a51 (L2.fun_mk ?l51 ?e51 ?k51) ?mkR ?kpR ?mkc1 ?kpc1 ?mkc2 ?kpc2 ?mkc3 ?kpc3 ?mkc4 ?kpc4 ?mkc5 ?kpc5 ?mkc6 ?kpc6 ?mkc7 ?kpc7 ?mkc8 ?kpc8 ⟨⟨?pg, ?hd, ?po, ?sa⟩, ?nn1, ?nn2, ?nn3⟩ ?g1CQ ?g2CQ ?g3CQ ?g1CB ?g2CB ?g3CB ?tyn ?tyk ?qb1 ?qb2 ?qb3 ?qb4 ?qb5 ?qb6 ?qb7 ?qb8 ?tn1 ?tb1 ?tn2 ?tb2 ?tn3 ?tb3 ?tn4 ?tb4 ?q1 ?q2 ?q3 ?q4 ?q5 ?q6 ?q7 ?q8 ?q9 ?z1 ?z2 ?z3 ?z4 ?z5 ?z6 ?z7 ?z8 ?z9 ?z10 ?z11 ?z12 ?z13 ?z14 ?z15 ?z16 ?z17
    case amR | amCQ | amCB | amc1 | amc2 | amc3 | amc4 | amc5 | amc6 | amc7 | amc8 | a1 | l1 | e1 | k1 | a2 | l2 | e2 | k2 | a3 | l3 | e3 | k3 | a4 | l4 | e4 | k4 | a5 | l5 | e5 | k5 | a6 | l6 | e6 | k6 | a7 | l7 | e7 | k7 | a8 | l8 | e8 | k8 | a9 | l9 | e9 | k9 | a10 | l10 | e10 | k10 | a11 | l11 | e11 | k11 | a12 | l12 | e12 | k12 | a13 | l13 | e13 | k13 | a14 | l14 | e14 | k14 | a15 | l15 | e15 | k15 | a16 | i16 | l16 | e16 | k16 | a17 | i17 | l17 | e17 | k17 | a18 | i18 | l18 | e18 | k18 | a19 | l19 | e19 | k19 | a20 | l20 | e20 | k20 | a21 | i21 | l21 | e21 | k21 | a22 | l22 | e22 | k22 | a23 | l23 | e23 | k23 | a24 | i24 | l24 | e24 | k24 | a25 | i25 | l25 | e25 | k25 | a26 | i26 | l26 | e26 | k26 | a27 | i27 | l27 | e27 | k27 | a28 | i28 | l28 | e28 | k28 | a29 | l29 | e29 | k29 | a30 | l30 | e30 | k30 | a31 | i31 | l31 | e31 | k31 | a32 | l32 | e32 | k32 | a33 | l33 | e33 | k33 | a34 | l34 | e34 | k34 | a35 | i35 | l35 | e35 | k35 | a36 | i36 | l36 | e36 | k36 | a37 | i37 | l37 | e37 | k37 | a38 | i38 | l38 | e38 | k38 | a39 | l39 | e39 | k39 | a40 | i40 | l40 | e40 | k40 | a41 | i41 | l41 | e41 | k41 | a42 | i42 | l42 | e42 | k42 | a43 | i43 | l43 | e43 | k43 | a44 | i44 | l44 | e44 | k44 | a45 | i45 | l45 | e45 | k45 | a46 | i46 | l46 | e46 | k46 | a47 | i47 | l47 | e47 | k47 | a48 | i48 | l48 | e48 | k48 | a49 | i49 | l49 | e49 | k49 | a50 | i50 | l50 | e50 | k50 | a51 | l51 | e51 | k51 | mkR | kpR | mkc1 | kpc1 | mkc2 | kpc2 | mkc3 | kpc3 | mkc4 | kpc4 | mkc5 | kpc5 | mkc6 | kpc6 | mkc7 | kpc7 | mkc8 | kpc8 | pg | hd | po | sa | nn1 | nn2 | nn3 | g1CQ | g2CQ | g3CQ | g1CB | g2CB | g3CB | tyn | tyk | tn1 | tn2 | tn3 | tn4 | q1 | q2 | q3 | q4 | q5 | q6 | q7 | q8 | q9 | z1 | z2 | z3 | z4 | z5 | z6 | z7 | z8 | z9 | z10 | z11 | z12 | z13 | z14 | z15 | z16 | z17 => first | k_is | (unfold L2.NoAttr; k_is)
    case qb1 | qb2 | qb3 | qb4 | qb5 | qb6 | qb7 | qb8 | tb1 | tb2 | tb3 | tb4 => kernel_rfl
