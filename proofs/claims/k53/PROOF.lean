import PyProof.Rows.All
import Wide.All
import OpenK.AllK
import Wide.FinOn
import Lean
import PyProof.EqAt
import PyProof.EqKinds
import PyProof.TupleCall
import PySem.Challenge.RW_unsaybook_k53_whole_knots_looked_at
set_option Elab.async false
set_option linter.all false
set_option maxRecDepth 100000
namespace L2
open PySem PySem.Spec PyProof.Rows
abbrev Key := Sum Int Str
def keyIs : Key → Value → Bool
  | .inl k, v => Value.isInt k v
  | .inr x, v => Value.isStrOf x v
def keyH (w : World) : Key → Int
  | .inl k => hashInt k
  | .inr x => hashStr w x
theorem keyIs_shape : ∀ {k : Key} {v : Value}, keyIs k v = true → (∃ i t, k = Sum.inl i ∧ v = Value.int i t) ∨ (∃ x t, k = Sum.inr x ∧ v = Value.str x t)
  | .inl i, v, h => by
    obtain ⟨t, e⟩ := Value.isInt_shape (k := i) (v := v) h
    exact .inl ⟨i, t, rfl, e⟩
  | .inr x, v, h => by
    obtain ⟨t, e⟩ := Value.isStrOf_shape (x := x) (v := v) h
    exact .inr ⟨x, t, rfl, e⟩
theorem keyIs_int (i : Int) (t : Tok) : keyIs (.inl i) (.int i t) = true := by simp [keyIs, Value.isInt]
theorem keyIs_str (x : Str) (t : Tok) : keyIs (.inr x) (.str x t) = true := by simp [keyIs, Value.isStrOf]
theorem key_ll (a b : Int) : decide ((Sum.inl a : Key) = Sum.inl b) = (a == b) := by
  by_cases e : a = b
  · subst e; simp
  · have h : ¬ (Sum.inl a : Key) = Sum.inl b := fun q => e (Sum.inl.inj q)
    rw [decide_eq_false h]
    exact (beq_eq_false_iff_ne.mpr e).symm
theorem key_rr (a b : Str) : decide ((Sum.inr a : Key) = Sum.inr b) = decide (a = b) := by
  by_cases e : a = b
  · subst e; simp
  · have h : ¬ (Sum.inr a : Key) = Sum.inr b := fun q => e (Sum.inr.inj q)
    rw [decide_eq_false h, decide_eq_false e]
theorem key_lr (a : Int) (b : Str) : decide ((Sum.inl a : Key) = Sum.inr b) = false := decide_eq_false (fun q => nomatch q)
theorem key_rl (a : Str) (b : Int) : decide ((Sum.inr a : Key) = Sum.inl b) = false := decide_eq_false (fun q => nomatch q)
def mixKind (prog : Program) (w : World) : PySem.KeyKind prog w Key where
  is := keyIs
  hash := keyH w
  inj := fun v a b ha hb => by
    rcases keyIs_shape ha with ⟨i, t, rfl, rfl⟩ | ⟨x, t, rfl, rfl⟩
    · rcases keyIs_shape hb with ⟨j, u, rfl, e⟩ | ⟨y, u, rfl, e⟩
      · injection e with e1 _; rw [e1]
      · exact nomatch e
    · rcases keyIs_shape hb with ⟨j, u, rfl, e⟩ | ⟨y, u, rfl, e⟩
      · exact nomatch e
      · injection e with e1 _; rw [e1]
  byValue := fun k v h => by
    rcases keyIs_shape h with ⟨i, t, rfl, rfl⟩ | ⟨x, t, rfl, rfl⟩ <;> rfl
  pyHash := fun hv h => by
    rcases keyIs_shape hv with ⟨i, t, rfl, rfl⟩ | ⟨x, t, rfl, rfl⟩
    · exact wpAny_pyHash_int h
    · exact wpAny_pyHash_str h
  eqBool := fun hu hv h => by
    rcases keyIs_shape hu with ⟨i, t, rfl, rfl⟩ | ⟨x, t, rfl, rfl⟩
    · rcases keyIs_shape hv with ⟨j, u, rfl, rfl⟩ | ⟨y, u, rfl, rfl⟩
      · rw [key_ll] at h; exact wpAny_eqBool_int h
      · rw [key_lr] at h; exact SeqAt.EqAt.int_str i t y u _ _ _ _ h
    · rcases keyIs_shape hv with ⟨j, u, rfl, rfl⟩ | ⟨y, u, rfl, rfl⟩
      · rw [key_rl] at h; exact SeqAt.EqAt.str_int x t j u _ _ _ _ h
      · rw [key_rr] at h; exact wpAny_eqBool_str h
  «strs» := fun k x t v h => by
    rcases keyIs_shape h with ⟨i, u, rfl, e⟩ | ⟨y, u, rfl, e⟩
    · exact nomatch e
    · injection e with e1 _
      subst e1
      cases v <;> rfl
theorem mixKind_int (prog : Program) (w : World) (i : Int) (t : Tok) : (mixKind prog w).is (.inl i) (.int i t) = true := keyIs_int i t
theorem mixKind_str (prog : Program) (w : World) (x : Str) (t : Tok) : (mixKind prog w).is (.inr x) (.str x t) = true := keyIs_str x t
end L2
namespace L2
open PySem PySem.Spec PyProof.Rows
inductive V where
  | non | bl (b : Bool) | int (i : Int) | str (x : Str) | byt (b : Array UInt8) | flt (b : UInt64) | ref (a : Addr) | ty (n : String)
  deriving DecidableEq
def RelV : V → Value → Prop
  | .non, u => u = Value.none
  | .bl b, u => u = Value.bool b
  | .int i, u => ∃ t, u = Value.int i t
  | .str x, u => ∃ t, u = Value.str x t
  | .byt b, u => ∃ t, u = Value.bytes b t
  | .flt b, u => ∃ t, u = Value.float b t
  | .ref a, u => u = Value.ref a
  | .ty n, u => u = Value.type n
abbrev Vals : List V → List Value → Prop := Paired RelV
theorem Vals.length {xs : List V} {us : List Value} (r : Vals xs us) : xs.length = us.length := Paired.length r
theorem Vals.get : ∀ {xs : List V} {us : List Value} {i : Nat} {x : V}, Vals xs us → xs[i]? = some x → ∃ u, us[i]? = some u ∧ RelV x u
  | _, _, _, _, .nil, e => by simp at e
  | _, _, 0, _, .cons r _, e => by simp at e; subst e; exact ⟨_, rfl, r⟩
  | _, _, i + 1, x, .cons _ t, e => by
    obtain ⟨u, h1, h2⟩ := Vals.get (i := i) (x := x) t (by simpa using e)
    exact ⟨u, by simpa using h1, h2⟩
theorem Vals.append : ∀ {xs ys : List V} {us ws : List Value}, Vals xs us → Vals ys ws → Vals (xs ++ ys) (us ++ ws)
  | _, _, _, _, .nil, s => s
  | _, _, _, _, .cons r t, s => .cons r (Vals.append t s)
theorem Vals.take : ∀ {xs : List V} {us : List Value} (n : Nat), Vals xs us → Vals (xs.take n) (us.take n)
  | _, _, 0, _ => .nil
  | _, _, _ + 1, .nil => .nil
  | _, _, n + 1, .cons r t => .cons r (Vals.take n t)
theorem Vals.drop : ∀ {xs : List V} {us : List Value} (n : Nat), Vals xs us → Vals (xs.drop n) (us.drop n)
  | _, _, 0, r => r
  | _, _, _ + 1, .nil => .nil
  | _, _, n + 1, .cons _ t => Vals.drop n t
def RelO : Option V → Option Value → Prop
  | some v, some u => RelV v u
  | none, none => True
  | _, _ => False
def KV {κ : Type} : List (κ × V) → List (κ × Value) → Prop := Paired fun (p : κ × V) (q : κ × Value) => p.1 = q.1 ∧ RelV p.2 q.2
def kV : Key → V
  | .inl i => .int i
  | .inr x => .str x
inductive HO where
  /-- a list -/
  | lst (xs : List V)
  /-- a tuple (never changes) -/
  | tup (xs : List V)
  /-- a dict whose keys are ints and texts; one whose keys are tuples of ints and texts (the empty one is both) -/
  | dK (kvs : List (Key × V)) | dT (kvs : List (List Key × V))
  /-- a set of ints: its members, its size -/
  | set (S : Int → Bool) (n : Nat)
  /-- an instance of the class at C, its dict at dx, its attributes -/
  | ins (C dx : Addr) (fs : List (Str × V))
  /-- the dict of the instance at x -/
  | own (x : Addr)
  /-- the dict of an exception -/
  | xd (fs : List (Str × V))
  /-- a bound method, f of x -/
  | met (f x : Addr)
  /-- a range object lo, lo + 1, .. below hi -/
  | rng (lo hi : Int)
  /-- a thing that is known to the object (the script; a dict while a loop walks it): read, never written while it is so -/
  | frz (o : Obj) (u : HO)
  /-- a code object's table -/
  | tbl (ps : Array Value)
  /-- any other thing, by what is true of its one object (a def of one's own: SetO a S n := HO.ext fun h => ..) -/
  | ext (φ : Heap → Prop)
abbrev Hp := Addr → Option HO
def upd (H : Hp) (a : Addr) (o : HO) : Hp := fun b => if b = a then some o else H b
theorem upd_same {H : Hp} {a : Addr} {o : HO} : upd H a o a = some o := by unfold upd; rw [if_pos rfl]
theorem upd_ne {H : Hp} {a b : Addr} {o : HO} (h : b ≠ a) : upd H a o b = H b := by unfold upd; rw [if_neg h]
theorem upd_upd {H : Hp} {a : Addr} {o u : HO} : upd (upd H a o) a u = upd H a u := by
  funext b; unfold upd; split <;> rfl
theorem ne_of {H : Hp} {a b : Addr} {o u : HO} (h : H a = some o) (h' : H b = some u) (d : o ≠ u) : a ≠ b := by
  intro e; subst e; rw [h] at h'; exact d (Option.some.inj h')
theorem ne_of_none {H : Hp} {a b : Addr} {o : HO} (h : H a = some o) (h' : H b = none) : a ≠ b := by
  intro e; subst e; rw [h] at h'; cases h'
section
variable (P : Program) (w : World)
def ObjOk (H : Hp) (h : Heap) (a : Addr) : HO → Prop
  | .lst xs => xs.length ≤ sizeLine ∧ ∃ (its : List Value) (n : Nat), Vals xs its ∧ h.get? a = some { cls := .type "list", data := .seq its.toArray n }
  | .tup xs => xs.length ≤ sizeLine ∧ ∃ its : List Value, Vals xs its ∧ IsTup h a its.toArray
  | .dK kvs => kvs.length ≤ sizeLine ∧ (a == sysModules) = false ∧ ∃ vs, KV kvs vs ∧ h.DictOf (mixKind P w) a vs
  | .dT kvs => kvs.length ≤ sizeLine ∧ (a == sysModules) = false ∧ ∃ xs : List (List Key × Addr × Value),
      Paired (fun (p : List Key × V) (q : List Key × Addr × Value) => p.1 = q.1 ∧ H q.2.1 = some (.tup (p.1.map kV)) ∧ RelV p.2 q.2.2) kvs xs ∧
      ∃ o es ep, h.get? a = some o ∧ o.ExactDict ∧ o.data = .dict es ep ∧ es.toList = xs.map (entryOfKey (tupleKind (mixKind P w))) ∧ (xs.map (·.1)).Nodup
  | .set S n => h.SetOf (intKind P w) a S n
  | .ins C dx fs => H dx = some (.own a) ∧ fs.length ≤ 1000 ∧ dx ≠ a ∧ h.get? a = some (PySem.W.instObj C dx) ∧
      ∃ mA, h.Ns1 dx mA ∧ (∀ f, RelO (fs.lookup f) (mA f)) ∧ PySem.Within mA (fs.map (·.1))
  | .own _ => ∃ o, h.get? a = some o
  | .xd fs => ∃ mA, h.Ns1 a mA ∧ ∀ f, RelO (fs.lookup f) (mA f)
  | .rng lo hi => ∃ t u v, h.get? a = some { cls := .type "range", data := .fields #[.int lo t, .int hi u, .int 1 v] }
  | .frz o u => h.get? a = some o ∧ ObjOk H h a u
  | .tbl ps => h.get? a = some { cls := .none, data := .fields ps }
  | .met f x => h.get? a = some (PySem.W.methodObj (.ref f) (.ref x))
  | .ext φ => φ h ∧ (∃ o, h.get? a = some o) ∧ ∀ h1 h2 : Heap, φ h1 → (∀ o, h1.get? a = some o → h2.get? a = some o) → φ h2
def HOk (H : Hp) (h : Heap) : Prop := ∀ a o, H a = some o → ObjOk P w H h a o
end
section
variable {P : Program} {w : World} {H H' : Hp} {h h' : Heap} {a : Addr} {o : HO}
theorem ObjOk.lt (x : ObjOk P w H h a o) : a < h.objs.size := by
  cases o with
  | lst xs => obtain ⟨_, _, _, _, e⟩ := x; exact Heap.lt_size e
  | tup xs => obtain ⟨_, _, _, p⟩ := x; exact p.lt
  | dK kvs => obtain ⟨_, _, _, _, o, _, _, e, _⟩ := x; exact Heap.lt_size e
  | dT kvs => obtain ⟨_, _, _, _, o, _, _, e, _⟩ := x; exact Heap.lt_size e
  | set S n => obtain ⟨o, _, _, _, e, _⟩ := x; exact Heap.lt_size e
  | ins C dx fs => obtain ⟨_, _, _, e, _⟩ := x; exact Heap.lt_size e
  | own y => obtain ⟨_, e⟩ := x; exact Heap.lt_size e
  | xd fs => obtain ⟨_, ⟨_, _, _, e, _⟩, _⟩ := x; exact Heap.lt_size e
  | rng lo hi => obtain ⟨_, _, _, e⟩ := x; exact Heap.lt_size e
  | frz ob u => obtain ⟨e, _⟩ := x; exact Heap.lt_size e
  | tbl ps => exact Heap.lt_size (show h.get? a = some _ from x)
  | met f y => exact Heap.lt_size (show h.get? a = some _ from x)
  | ext φ => obtain ⟨_, ⟨_, e⟩, _⟩ := x; exact Heap.lt_size e
theorem Paired.mapP {α β : Type} {F G : α → β → Prop} : ∀ {l₁ : List α} {l₂ : List β}, Paired F l₁ l₂ → (∀ a b, F a b → G a b) → Paired G l₁ l₂
  | _, _, .nil, _ => .nil
  | _, _, .cons r t, f => .cons (f _ _ r) (Paired.mapP t f)
theorem ObjOk.stay (x : ObjOk P w H h a o) (k : ∀ b u, (b = a ∨ H b = some (.own a)) → h.get? b = some u → h'.get? b = some u)
    (ho : ∀ b, H b = some (.own a) → H' b = some (.own a)) (ht : ∀ b xs, H b = some (.tup xs) → H' b = some (.tup xs)) : ObjOk P w H' h' a o := by
  induction o with
  | lst xs => obtain ⟨z, its, n, r, e⟩ := x; exact ⟨z, its, n, r, k _ _ (.inl rfl) e⟩
  | tup xs => obtain ⟨z, its, r, ob, e, c⟩ := x; exact ⟨z, its, r, ob, k _ _ (.inl rfl) e, c⟩
  | dK kvs => obtain ⟨z, y, vs, r, ob, es, ep, e, c⟩ := x; exact ⟨z, y, vs, r, ob, es, ep, k _ _ (.inl rfl) e, c⟩
  | dT kvs =>
    obtain ⟨z, y, xs, r, ob, es, ep, e, c⟩ := x
    exact ⟨z, y, xs, Paired.mapP r fun p q z => ⟨z.1, ht _ _ z.2.1, z.2.2⟩, ob, es, ep, k _ _ (.inl rfl) e, c⟩
  | set S n => obtain ⟨ob, es, ep, t, e, c⟩ := x; exact ⟨ob, es, ep, t, k _ _ (.inl rfl) e, c⟩
  | ins C dx fs =>
    obtain ⟨d, z, ne, e, mA, ⟨od, es, ep, e2, c⟩, r⟩ := x
    exact ⟨ho _ d, z, ne, k _ _ (.inl rfl) e, mA, ⟨od, es, ep, k _ _ (.inr d) e2, c⟩, r⟩
  | own y => obtain ⟨ob, e⟩ := x; exact ⟨ob, k _ _ (.inl rfl) e⟩
  | xd fs => obtain ⟨mA, ⟨od, es, ep, e, c⟩, r⟩ := x; exact ⟨mA, ⟨od, es, ep, k _ _ (.inl rfl) e, c⟩, r⟩
  | rng lo hi => obtain ⟨t, u, v, e⟩ := x; exact ⟨t, u, v, k _ _ (.inl rfl) e⟩
  | frz ob u ih => obtain ⟨e, q⟩ := x; exact ⟨k _ _ (.inl rfl) e, ih q⟩
  | tbl ps =>
    have e : h.get? a = some { cls := .none, data := .fields ps } := x
    show h'.get? a = some { cls := .none, data := .fields ps }
    exact k a _ (.inl rfl) e
  | met f y =>
    have e : h.get? a = some (PySem.W.methodObj (.ref f) (.ref y)) := x
    show h'.get? a = some (PySem.W.methodObj (.ref f) (.ref y))
    exact k a _ (.inl rfl) e
  | ext φ => obtain ⟨p, ⟨o, e⟩, st⟩ := x; exact ⟨st _ _ p fun o q => k _ _ (.inl rfl) q, ⟨o, k _ _ (.inl rfl) e⟩, st⟩
theorem HOk.lt (x : HOk P w H h) (e : H a = some o) : a < h.objs.size := (x a o e).lt
theorem HOk.fresh (x : HOk P w H h) (e : h.objs.size ≤ a) : H a = none := by
  cases q : H a with
  | none => rfl
  | some u => exact absurd (Nat.lt_of_lt_of_le (x.lt q) e) (Nat.lt_irrefl _)
theorem HOk.kept (x : HOk P w H h) (k : ∀ b u, h.get? b = some u → h'.get? b = some u) : HOk P w H h' := fun a o e =>
  (x a o e).stay (fun b u _ q => k b u q) (fun _ q => q) fun _ _ q => q
theorem HOk.laid (x : HOk P w H h) (k : ∀ b u, h.get? b = some u → h'.get? b = some u) (hp : h.objs.size ≤ a) (new : ObjOk P w (upd H a o) h' a o) : HOk P w (upd H a o) h' := fun b u e => by
  have hn := x.fresh hp
  by_cases hb : b = a
  · subst hb; rw [upd_same] at e; cases e; exact new
  · rw [upd_ne hb] at e
    exact (x b u e).stay (fun c v _ q => k c v q) (fun c q => by rw [upd_ne (ne_of_none q hn)]; exact q) fun c xs q => by rw [upd_ne (ne_of_none q hn)]; exact q
end
def Rd (H : Hp) (a : Addr) (u : HO) : Prop := H a = some u ∨ ∃ o, H a = some (.frz o u)
theorem Rd.ok {P : Program} {w : World} {H : Hp} {h : Heap} {a : Addr} {u : HO} (r : Rd H a u) (x : HOk P w H h) : ObjOk P w H h a u := by
  rcases r with r | ⟨o, r⟩
  · exact x a u r
  · obtain ⟨_, q⟩ := x a _ r
    exact q
def Mut : Option HO → Prop
  | some (.lst _) => True
  | some (.dK _) => True
  | some (.dT _) => True
  | some (.set _ _) => True
  | some (.ins _ _ _) => True
  | some (.ext _) => True
  | _ => False
section
variable {P : Program} {w : World} {H : Hp} {h h' : Heap} {x e : Addr} {o' : HO}
theorem HOk.write (ok : HOk P w H h) (mu : Mut (H x)) (he : e = x ∨ H e = some (.own x)) (k : ∀ b u, b ≠ e → h.get? b = some u → h'.get? b = some u) (heo : ∃ u, h'.get? e = some u)
    (new : ObjOk P w (upd H x o') h' x o') : HOk P w (upd H x o') h' := fun b u q => by
  have nown : ∀ c y, H c = some (.own y) → c ≠ x := fun c y r z => by subst z; rw [r] at mu; exact mu
  have ntup : ∀ c xs, H c = some (.tup xs) → c ≠ x := fun c xs r z => by subst z; rw [r] at mu; exact mu
  by_cases hb : b = x
  · subst hb; rw [upd_same] at q; cases q; exact new
  · rw [upd_ne hb] at q
    by_cases hbe : b = e
    · have q' : H b = some (.own x) := by
        rcases he with z | z
        · exact absurd (hbe.trans z) hb
        · rw [hbe]; exact z
      rw [q] at q'; cases q'
      obtain ⟨v, hv⟩ := heo
      exact ⟨v, by rw [hbe]; exact hv⟩
    · refine (ok b u q).stay (fun c v hc r => k c v ?_ r) (fun c r => by rw [upd_ne (nown c b r)]; exact r) fun c xs r => by rw [upd_ne (ntup c xs r)]; exact r
      rcases hc with rfl | hc
      · exact hbe
      · rintro rfl
        rcases he with z | z
        · exact nown c b hc z
        · rw [hc] at z; cases z; exact hb rfl
end
structure Un (fs ex : List Addr) (H H' : Hp) (h h' : Heap) : Prop where
  keep : ∀ b o, h.get? b = some o → H b = none → b ∉ fs → b ∉ ex → h'.get? b = some o
  slot : ∀ b o, h.get? b = some o → H b = none → b ∈ fs → b ∉ ex → ∃ sl, h'.get? b = some { o with slots := sl }
  free : ∀ b o, h.get? b = some o → H b = none → b ∉ ex → H' b = none
  there : ∀ b o, h.get? b = some o → b ∉ ex → ∃ o', h'.get? b = some o'
  tups : ∀ b xs, H b = some (.tup xs) → H' b = some (.tup xs)
  frzs : ∀ b o u, H b = some (.frz o u) → H' b = some (.frz o u)
  tbls : ∀ b ps, H b = some (.tbl ps) → ∃ more, H' b = some (.tbl (ps ++ more))
section
variable {fs fs' ex ex' : List Addr} {H H1 H2 : Hp} {h h1 h2 h' : Heap} {a x e : Addr} {o : HO}
theorem Un.any (u : Un fs ex H H1 h h1) {b : Addr} {ob : Obj} (q : h.get? b = some ob) (n : H b = none) (hx : b ∉ ex) : ∃ sl, h1.get? b = some { ob with slots := sl } := by
  by_cases hb : b ∈ fs
  · exact u.slot b ob q n hb hx
  · exact ⟨ob.slots, u.keep b ob q n hb hx⟩
theorem Un.kept (k : ∀ b u, h.get? b = some u → h'.get? b = some u) : Un fs ex H H h h' :=
  ⟨fun b ob q _ _ _ => k b ob q, fun b ob q _ _ _ => ⟨ob.slots, k b ob q⟩, fun _ _ _ n _ => n, fun b ob q _ => ⟨ob, k b ob q⟩, fun _ _ q => q, fun _ _ _ q => q, fun _ ps q => ⟨#[], by rw [q]; simp⟩⟩
theorem Un.refl : Un fs ex H H h h := Un.kept fun _ _ q => q
theorem Un.laid (k : ∀ b u, h.get? b = some u → h'.get? b = some u) (hp : h.objs.size ≤ a) (hn : H a = none) : Un fs ex H (upd H a o) h h' where
  keep := fun b u q _ _ _ => k b u q
  slot := fun b u q _ _ _ => ⟨u.slots, k b u q⟩
  free := fun b u q n _ => by rw [upd_ne (Nat.ne_of_lt (Nat.lt_of_lt_of_le (Heap.lt_size q) hp))]; exact n
  there := fun b u q _ => ⟨u, k b u q⟩
  tups := fun b xs q => by rw [upd_ne (ne_of_none q hn)]; exact q
  frzs := fun b u xs q => by rw [upd_ne (ne_of_none q hn)]; exact q
  tbls := fun b ps q => ⟨#[], by rw [upd_ne (ne_of_none q hn), q]; simp⟩
theorem Un.write (mu : Mut (H x)) (he : e = x ∨ H e = some (.own x)) (k : ∀ b u, b ≠ e → h.get? b = some u → h'.get? b = some u) (heo : ∃ u, h'.get? e = some u) : Un fs ex H (upd H x o) h h' := by
  have hx : ∀ b, H b = none → b ≠ x := fun b n z => by subst z; rw [n] at mu; exact mu
  have hb : ∀ b, H b = none → b ≠ e := fun b n z => by
    subst z
    rcases he with r | r
    · exact hx b n r
    · rw [n] at r; cases r
  have hm : ∀ b u, H b = some u → ¬ Mut (some u) → b ≠ x := fun b u q nm z => by subst z; rw [q] at mu; exact nm mu
  refine ⟨fun b u q n _ _ => k b u (hb b n) q, fun b u q n _ _ => ⟨u.slots, k b u (hb b n) q⟩, fun b u q n _ => by rw [upd_ne (hx b n)]; exact n, fun b u q _ => ?_,
    fun b xs q => by rw [upd_ne (hm b _ q fun z => z)]; exact q, fun b u xs q => by rw [upd_ne (hm b _ q fun z => z)]; exact q, fun b ps q => ⟨#[], by rw [upd_ne (hm b _ q fun z => z), q]; simp⟩⟩
  by_cases hbe : b = e
  · subst hbe; exact heo
  · exact ⟨u, k b u hbe q⟩
end
def trk (h : Heap) (H : Hp) : List Addr := (List.range h.objs.size).filter fun a => (H a).isSome
def hidT (h : Heap) (H : Hp) : Heap := PySem.W.hideAll h (trk h H)
theorem hidT_size (h : Heap) (H : Hp) : (hidT h H).objs.size = h.objs.size := PySem.W.hideAll_size _ _
theorem hidT_get {h : Heap} {H : Hp} {b : Addr} {o : Obj} (e : h.get? b = some o) (n : H b = none) : (hidT h H).get? b = some o :=
  PySem.W.hideAll_get _ e fun hm => by
    have q : (H b).isSome = true := (List.mem_filter.mp hm).2
    rw [n] at q; simp at q
theorem of_hidT {h : Heap} {H : Hp} {b : Addr} {o : Obj} (e : (hidT h H).get? b = some o) : h.get? b = some o ∧ H b = none := by
  have e' : h.get? b = some o := PySem.W.of_hideAll (trk h H) e
  refine ⟨e', ?_⟩
  cases q : H b with
  | none => rfl
  | some x =>
    have hm : b ∈ trk h H := List.mem_filter.mpr ⟨List.mem_range.mpr (Heap.lt_size e'), by simp [q]⟩
    have z : (hidT h H).get? b = none := PySem.W.hideAll_none (trk h H) hm
    rw [z] at e; cases e
end L2
namespace L2
open PySem PySem.Spec PyProof.Rows
structure Mod (K : PySem.W.Frag) (mg : Str → Option Value) (base : Heap) : Prop where
  kin : K.In base
  glob : base.Ns mainGlobals mg
  blt : ∃ mb, base.Ns builtinsNs mb ∧ ∀ x : Str, x ≠ "__name__" → mb x = bootBuiltins x
  nolimit : base.NoLimit
structure Cx where
  prog : Program
  w : World
  K : PySem.W.Frag
  mg : Str → Option Value
  base : Heap
  A : Around
  N : List Str
  s₀ : Shared
  H₀ : Hp
  env : Env
  outer : List Env
  stack : List Env
  ex : List Addr
  fn : Str → Bool
  calm : Bool
  pn : List (Addr × Obj)
  xe : Value → Shared → Prop
def frs (l : List Env) : List Addr := l.filterMap (·.frame)
abbrev Cx.fs (X : Cx) : List Addr := frs X.outer
def Vis (sc : Scope) (x : Str) : Prop := sc.names.lookup x = some .local ∨ sc.names.lookup x = some .cell ∨ sc.names.lookup x = some .free
def Loc (sc : Scope) (x : Str) : Prop := sc.names.lookup x = some .local ∨ sc.names.lookup x = some .cell
def Look (env : Env) (h : Heap) (m : Str → Option Value) (x : Str) (u : Value) : Prop :=
  (env.kindOf x = some .local ∧ m x = some u) ∨ ((env.kindOf x = some .cell ∨ env.kindOf x = some .free) ∧ ∃ c, env.cells.lookup x = some c ∧ h.IsCell c (some u))
structure Cx.Ok (X : Cx) : Prop where
  mod : Mod X.K X.mg X.base
  kind : X.env.scope.kind = .function
  glob : X.env.globals = mainGlobals
  blt : X.env.builtins = builtinsNs
  above : X.s₀.heap.objs.size ≤ X.env.locals
  inj : ∀ x y c, X.env.cells.lookup x = some c → X.env.cells.lookup y = some c → x = y
  has : ∀ x, (X.env.kindOf x = some .cell ∨ X.env.kindOf x = some .free) → ∃ c, X.env.cells.lookup x = some c
  cab : ∀ x c, X.fn x = true → X.env.cells.lookup x = some c → X.s₀.heap.objs.size ≤ c
  hd : X.calm = true → X.A.handled = none
  frames : X.A.frames = some X.stack
  stk : X.stack = X.outer ∨ (X.stack = X.env :: X.outer ∧ X.env.frame = some X.env.locals)
  exf : ∀ b ∈ X.ex, b ≠ X.env.locals ∧ ∀ x c, X.env.cells.lookup x = some c → c ≠ b
  bs : ∀ b o, X.base.get? b = some o → X.s₀.heap.get? b = some o ∧ X.H₀ b = none
  bsz : X.base.objs.size ≤ X.s₀.heap.objs.size
  noex : ∀ b o, X.base.get? b = some o → b ∉ X.ex
  exfs : ∀ b ∈ X.ex, b ∉ X.fs
  funs : X.s₀.heap.FunFrames X.base X.outer
  frf : ∀ b ∈ X.fs, X.H₀ b = none
structure Inv (X : Cx) (pins : List (Addr × Obj)) (σ : List (Option V)) (H : Hp) (s : Shared) : Prop where
  ok : X.Ok
  os : s.os = X.s₀.os
  bare : AllBare s.gens
  base : Un X.fs X.ex X.H₀ H X.s₀.heap s.heap
  loc : ∃ m, s.heap.Ns X.env.locals m ∧ ∀ (i : Nat) (x : Str) (v : V), X.N[i]? = some x → σ[i]? = some (some v) → Vis X.env.scope x → ∃ u, RelV v u ∧ Look X.env s.heap m x u
  cell : ∀ x c, X.env.cells.lookup x = some c → ∃ v, s.heap.IsCell c v
  free : H X.env.locals = none
  freeC : ∀ x c, X.env.cells.lookup x = some c → H c = none
  pin : ∀ p ∈ X.pn ++ pins, s.heap.get? p.1 = some p.2 ∧ H p.1 = none ∧ p.1 ≠ X.env.locals ∧ p.1 ∉ X.fs ∧ ∀ v, p.2.data ≠ .cell v
  hok : HOk X.prog X.w H s.heap
  len : σ.length = X.N.length
section
variable {X : Cx} {pins : List (Addr × Obj)} {σ : List (Option V)} {H H' : Hp} {s : Shared} {h' : Heap}
theorem Cx.Ok.nofr (ok : X.Ok) {b : Addr} {o : Obj} (e : X.base.get? b = some o) : b ∉ X.fs := fun hb => by
  have := (ok.funs.mem hb).1
  rw [e] at this; cases this
theorem Inv.bs (I : Inv X pins σ H s) : ∀ b o, X.base.get? b = some o → s.heap.get? b = some o ∧ H b = none := fun b o e =>
  ⟨I.base.keep b o (I.ok.bs b o e).1 (I.ok.bs b o e).2 (I.ok.nofr e) (I.ok.noex b o e), I.base.free b o (I.ok.bs b o e).1 (I.ok.bs b o e).2 (I.ok.noex b o e)⟩
theorem Inv.bk (I : Inv X pins σ H s) : ∀ b o, X.base.get? b = some o → s.heap.get? b = some o := fun b o e => (I.bs b o e).1
theorem Inv.mod (I : Inv X pins σ H s) : Mod X.K X.mg X.base := I.ok.mod
theorem Inv.kIn (I : Inv X pins σ H s) : X.K.In s.heap := I.ok.mod.kin.keeps I.bk
theorem Inv.lt (I : Inv X pins σ H s) : X.env.locals < s.heap.objs.size := let ⟨_, hn, _⟩ := I.loc; hn.lt
theorem Inv.sz (I : Inv X pins σ H s) : X.s₀.heap.objs.size ≤ s.heap.objs.size := Nat.le_trans I.ok.above (Nat.le_of_lt I.lt)
theorem Inv.nofs (I : Inv X pins σ H s) {a : Addr} (h : s.heap.objs.size ≤ a) : a ∉ X.fs := fun hb => by
  obtain ⟨_, o, ho, _⟩ := I.ok.funs.mem hb
  exact absurd (Nat.lt_of_lt_of_le (Heap.lt_size ho) (Nat.le_trans I.sz h)) (Nat.lt_irrefl _)
theorem Inv.cne (I : Inv X pins σ H s) : ∀ x c, X.env.cells.lookup x = some c → c ≠ X.env.locals := fun x c e z => by
  obtain ⟨v, o, ho, hd⟩ := I.cell x c e
  obtain ⟨m, ⟨o', es, ep, ho', hd', _⟩, _⟩ := I.loc
  rw [z, ho'] at ho; cases ho; rw [hd'] at hd; cases hd
theorem Inv.funs (I : Inv X pins σ H s) : s.heap.FunFrames X.base X.outer := by
  have all : ∀ (l : List Env), (∀ b ∈ frs l, b ∈ X.fs) → X.s₀.heap.FunFrames X.base l → s.heap.FunFrames X.base l := by
    intro l
    induction l with
    | nil => intro _ _; trivial
    | cons env r ih =>
      intro hs hl
      obtain ⟨hk, ⟨L, o, hf, hn, ho, hd⟩, hr⟩ := hl
      have hL : L ∈ X.fs := hs L (by unfold frs; rw [List.filterMap_cons, hf]; exact List.mem_cons_self)
      obtain ⟨sl, e⟩ := I.base.slot L o ho (I.ok.frf L hL) hL fun z => I.ok.exfs L z hL
      exact ⟨hk, ⟨L, _, hf, hn, e, hd⟩, ih (fun b hb => hs b (by unfold frs; rw [List.filterMap_cons, hf]; exact List.mem_cons_of_mem _ hb)) hr⟩
  exact all X.outer (fun _ hb => hb) I.ok.funs
theorem Inv.stack (I : Inv X pins σ H s) : s.heap.FunFrames X.base X.stack := by
  rcases I.ok.stk with e | ⟨e, hf⟩
  · rw [e]; exact I.funs
  · rw [e]
    obtain ⟨m, hn, _⟩ := I.loc
    refine .cons (by rw [I.ok.kind]; decide) hf hn ?_ I.funs
    exact Heap.get?_none_of_le (Nat.le_trans I.ok.bsz I.ok.above)
theorem Inv.stkSub (I : Inv X pins σ H s) : ∀ b ∈ frs X.stack, b ∈ X.env.locals :: X.fs := fun b hb => by
  rcases I.ok.stk with e | ⟨e, hf⟩
  · rw [e] at hb; exact List.mem_cons_of_mem _ hb
  · rw [e] at hb
    unfold frs at hb
    rw [List.filterMap_cons, hf] at hb
    exact hb
theorem Inv.stkFree (I : Inv X pins σ H s) : ∀ b ∈ frs X.stack, H b = none := fun b hb => by
  rcases List.mem_cons.mp (I.stkSub b hb) with e | hb
  · rw [e]; exact I.free
  · obtain ⟨_, o, ho, _⟩ := I.ok.funs.mem hb
    exact I.base.free b o ho (I.ok.frf b hb) fun z => I.ok.exfs b z hb
theorem Inv.step {g' : Array GenState} {t' : Nat} {d' : Drawn} {ch : List Addr} (I : Inv X pins σ H s)
    (hch : ∀ b ∈ ch, (b ∈ X.ex ∨ X.s₀.heap.objs.size ≤ b) ∧ b ≠ X.env.locals ∧ (∀ x c, X.env.cells.lookup x = some c → c ≠ b) ∧ ∀ p ∈ X.pn ++ pins, p.1 ≠ b)
    (keep : ∀ b o, b ≠ X.env.locals → b ∉ X.fs → b ∉ ch → s.heap.get? b = some o → H b = none → h'.get? b = some o)
    (slot : ∀ b o, b ≠ X.env.locals → b ∈ X.fs → b ∉ ch → s.heap.get? b = some o → H b = none → ∃ sl, h'.get? b = some { o with slots := sl }) (free : ∀ b o, b ∉ ch → s.heap.get? b = some o → H b = none → H' b = none)
    (there : ∀ b o, b ∉ ch → s.heap.get? b = some o → ∃ o', h'.get? b = some o')
    (tups : ∀ b xs, H b = some (.tup xs) → H' b = some (.tup xs)) (frzs : ∀ b o u, H b = some (.frz o u) → H' b = some (.frz o u)) (tbls : ∀ b ps, H b = some (.tbl ps) → ∃ more, H' b = some (.tbl (ps ++ more)))
    (ns : ∀ m, s.heap.Ns X.env.locals m → h'.Ns X.env.locals m) (hok : HOk X.prog X.w H' h') (hg : AllBare g') :
    Inv X pins σ H' { s with heap := h', gens := g', drawn := d', toks := t' } := by
  have neL : ∀ b o, X.s₀.heap.get? b = some o → b ≠ X.env.locals := fun b o e => Nat.ne_of_lt (Nat.lt_of_lt_of_le (Heap.lt_size e) I.ok.above)
  have neC : ∀ b o, X.s₀.heap.get? b = some o → b ∉ X.ex → b ∉ ch := fun b o e hx hb => by
    rcases (hch b hb).1 with z | z
    · exact hx z
    · exact absurd (Nat.lt_of_lt_of_le (Heap.lt_size e) z) (Nat.lt_irrefl _)
  have cellK : ∀ x c, X.env.cells.lookup x = some c → ∀ v, s.heap.IsCell c v → h'.IsCell c v := fun x c e v ⟨o, ho, hd⟩ => by
    have nch : c ∉ ch := fun z => (hch c z).2.2.1 x c e rfl
    by_cases hc : c ∈ X.fs
    · obtain ⟨sl, q⟩ := slot c o (I.cne x c e) hc nch ho (I.freeC x c e)
      exact ⟨_, q, hd⟩
    · exact ⟨o, keep c o (I.cne x c e) hc nch ho (I.freeC x c e), hd⟩
  refine ⟨I.ok, I.os, hg, ⟨fun b o e n hb hx => ?_, fun b o e n hb hx => ?_, fun b o e n hx => ?_, fun b o e hx => ?_, fun b xs e => tups b xs (I.base.tups b xs e), fun b o xs e => frzs b o xs (I.base.frzs b o xs e), fun b ps e => ?_⟩, ?_, fun x c e => ?_, ?_, fun x c e => ?_, fun p hp => ?_, hok, I.len⟩
  · exact keep b o (neL b o e) hb (neC b o e hx) (I.base.keep b o e n hb hx) (I.base.free b o e n hx)
  · obtain ⟨sl, e1⟩ := I.base.slot b o e n hb hx
    obtain ⟨sl', e2⟩ := slot b _ (neL b o e) hb (neC b o e hx) e1 (I.base.free b o e n hx)
    exact ⟨sl', e2⟩
  · obtain ⟨o', e1⟩ := I.base.there b o e hx
    exact free b o' (neC b o e hx) e1 (I.base.free b o e n hx)
  · obtain ⟨o', e1⟩ := I.base.there b o e hx
    exact there b o' (neC b o e hx) e1
  · obtain ⟨m1, e1⟩ := I.base.tbls b ps e
    obtain ⟨m2, e2⟩ := tbls b _ e1
    exact ⟨m1 ++ m2, by rw [e2, Array.append_assoc]⟩
  · obtain ⟨m, hn, hl⟩ := I.loc
    refine ⟨m, ns m hn, fun i x v e1 e2 e3 => ?_⟩
    obtain ⟨u, r, l⟩ := hl i x v e1 e2 e3
    refine ⟨u, r, ?_⟩
    rcases l with l | ⟨k, c, e, z⟩
    · exact .inl l
    · exact .inr ⟨k, c, e, cellK x c e _ z⟩
  · obtain ⟨v, z⟩ := I.cell x c e
    exact ⟨v, cellK x c e v z⟩
  · obtain ⟨m, ⟨o, _, _, ho, _⟩, _⟩ := I.loc
    exact free _ o (fun z => (hch _ z).2.1 rfl) ho I.free
  · obtain ⟨v, o, ho, hd⟩ := I.cell x c e
    exact free c o (fun z => (hch c z).2.2.1 x c e rfl) ho (I.freeC x c e)
  · obtain ⟨e, n, ne, nf, d⟩ := I.pin p hp
    have nch : p.1 ∉ ch := fun z => (hch p.1 z).2.2.2 p hp rfl
    exact ⟨keep p.1 p.2 ne nf nch e n, free p.1 p.2 nch e n, ne, nf, d⟩
theorem Inv.un {t' : Nat} (I : Inv X pins σ H s) (u : Un X.fs [] H H' s.heap h') (hok : HOk X.prog X.w H' h') : Inv X pins σ H' { s with heap := h', toks := t' } := by
  obtain ⟨m, ⟨o, es, ep, ho, r⟩, _⟩ := id I.loc
  obtain ⟨sl, hL⟩ := u.any ho I.free (by simp)
  exact I.step (g' := s.gens) (d' := s.drawn) (ch := []) (fun _ z => nomatch z) (fun b o _ hb _ e n => u.keep b o e n hb (by simp)) (fun b o _ hb _ e n => u.slot b o e n hb (by simp)) (fun b o _ e n => u.free b o e n (by simp)) (fun b o _ e => u.there b o e (by simp)) u.tups u.frzs u.tbls (fun m' hm => by
    obtain ⟨o', es', ep', ho', r'⟩ := hm
    rw [ho] at ho'; cases ho'
    exact ⟨_, es', ep', hL, r'⟩) hok I.bare
theorem Inv.call {g' : Array GenState} {t' : Nat} {d' : Drawn} {ch : List Addr} (I : Inv X pins σ H s) (u : Un (frs X.stack) ch H H' s.heap h') (hok : HOk X.prog X.w H' h') (hg : AllBare g')
    (hch : ∀ b ∈ ch, (b ∈ X.ex ∨ X.s₀.heap.objs.size ≤ b) ∧ b ≠ X.env.locals ∧ (∀ x c, X.env.cells.lookup x = some c → c ≠ b) ∧ ∀ p ∈ X.pn ++ pins, p.1 ≠ b) :
    Inv X pins σ H' { s with heap := h', gens := g', drawn := d', toks := t' } := by
  obtain ⟨m, ⟨o, es, ep, ho, r⟩, _⟩ := id I.loc
  obtain ⟨sl, hL⟩ := u.any ho I.free fun z => (hch _ z).2.1 rfl
  exact I.step (ch := ch) hch (fun b o hL hb hc e n => u.keep b o e n (fun z => (List.mem_cons.mp (I.stkSub b z)).elim hL hb) hc) (fun b o _ _ hc e n => u.any e n hc) (fun b o hc e n => u.free b o e n hc) (fun b o hc e => u.there b o e hc) u.tups u.frzs u.tbls (fun m' hm => by
    obtain ⟨o', es', ep', ho', r'⟩ := hm
    rw [ho] at ho'; cases ho'
    exact ⟨_, es', ep', hL, r'⟩) hok hg
theorem Inv.turned {t' : Nat} {it : Addr} (I : Inv X pins σ H s) (k : ∀ b o, b ≠ it → s.heap.get? b = some o → h'.get? b = some o) (hn : H it = none) (hL : it ≠ X.env.locals)
    (h1 : it ∈ X.ex ∨ X.s₀.heap.objs.size ≤ it) (h2 : ∀ x c, X.env.cells.lookup x = some c → c ≠ it) (h3 : ∀ p ∈ X.pn ++ pins, p.1 ≠ it) : Inv X pins σ H { s with heap := h', toks := t' } := by
  have nit : ∀ b u, H b = some u → b ≠ it := fun b u e z => by rw [z, hn] at e; cases e
  refine I.step (g' := s.gens) (d' := s.drawn) (ch := [it]) (fun b hb => ?_) (fun b o _ _ hc e _ => k b o (fun z => hc (by simp [z])) e) (fun b o _ _ hc e _ => ⟨o.slots, k b o (fun z => hc (by simp [z])) e⟩) (fun _ _ _ _ n => n)
    (fun b o hc e => ⟨o, k b o (fun z => hc (by simp [z])) e⟩) (fun _ _ e => e) (fun _ _ _ e => e) (fun b ps e => ⟨#[], by rw [e]; simp⟩) (fun m hm => ?_) (fun b u e => ?_) I.bare
  · have e : b = it := by simpa using hb
    subst e
    exact ⟨h1, hL, h2, h3⟩
  · obtain ⟨o, es, ep, ho, r⟩ := hm
    exact ⟨o, es, ep, k _ o (Ne.symm hL) ho, r⟩
  · refine (I.hok b u e).stay (fun c v hc q => k c v ?_ q) (fun _ q => q) fun _ _ q => q
    rcases hc with z | z
    · rw [z]; exact nit b u e
    · exact nit c _ z
theorem Inv.tok (I : Inv X pins σ H s) (t : Nat) : Inv X pins σ H { s with toks := t } := I.un (h' := s.heap) (t' := t) Un.refl I.hok
theorem Inv.kept {t' : Nat} (I : Inv X pins σ H s) (k : ∀ b u, s.heap.get? b = some u → h'.get? b = some u) : Inv X pins σ H { s with heap := h', toks := t' } := I.un (Un.kept k) (I.hok.kept k)
theorem Inv.laid {a : Addr} {o : HO} {t' : Nat} (I : Inv X pins σ H s) (k : ∀ b u, s.heap.get? b = some u → h'.get? b = some u) (hp : s.heap.objs.size ≤ a) (new : ObjOk X.prog X.w (upd H a o) h' a o) :
    Inv X pins σ (upd H a o) { s with heap := h', toks := t' } := I.un (Un.laid k hp (I.hok.fresh hp)) (I.hok.laid k hp new)
theorem Inv.write {x e : Addr} {o : HO} {t' : Nat} (I : Inv X pins σ H s) (mu : Mut (H x)) (he : e = x ∨ H e = some (.own x)) (k : ∀ b u, b ≠ e → s.heap.get? b = some u → h'.get? b = some u) (heo : ∃ u, h'.get? e = some u)
    (new : ObjOk X.prog X.w (upd H x o) h' x o) : Inv X pins σ (upd H x o) { s with heap := h', toks := t' } := I.un (Un.write mu he k heo) (I.hok.write mu he k heo new)
theorem Inv.pins_of {pins' : List (Addr × Obj)} (I : Inv X pins σ H s) (h : ∀ p ∈ pins', s.heap.get? p.1 = some p.2 ∧ H p.1 = none ∧ p.1 ≠ X.env.locals ∧ p.1 ∉ X.fs ∧ ∀ v, p.2.data ≠ .cell v) : Inv X pins' σ H s :=
  ⟨I.ok, I.os, I.bare, I.base, I.loc, I.cell, I.free, I.freeC, fun p hp => (List.mem_append.mp hp).elim (fun z => I.pin p (List.mem_append_left _ z)) (h p), I.hok, I.len⟩
theorem nodup_ix {N : List Str} (hN : N.Nodup) {i j : Nat} {x : Str} (a : N[i]? = some x) (b : N[j]? = some x) : i = j := by
  obtain ⟨h1, e1⟩ := List.getElem?_eq_some_iff.mp a
  obtain ⟨h2, e2⟩ := List.getElem?_eq_some_iff.mp b
  exact (List.getElem_inj hN).mp (e1.trans e2.symm)
theorem store_ok2 {M : Model} {A : Around} {E : Value → Shared → Prop} {i : Nat} {x : Str} {v : V} {u : Value} {Q : Unit → Shared → Prop} (I : Inv X pins σ H s) (hN : X.N.Nodup) (hi : X.N[i]? = some x) (hx : Loc X.env.scope x) (r : RelV v u)
    (h : ∀ s', Inv X pins (σ.set i (some v)) H s' → (∃ a, Heap.SameBut a s.heap s'.heap ∧ (a = X.env.locals ∨ X.env.cells.lookup x = some a)) → Q () s') (hf : X.fn x = true ∨ X.env.scope.names.lookup x = some .local := by first | exact .inl rfl | exact .inr rfl | assumption) : wpAny M A (storeName X.env x u) Q E s := by
  obtain ⟨m, hn, hl⟩ := id I.loc
  have hcls : (X.env.scope.kind == .class || (X.env.scope.kind == .module && X.env.locals != X.env.globals)) = false := by rw [I.ok.kind]; rfl
  have hiσ : i < σ.length := by rw [I.len]; exact (List.getElem?_eq_some_iff.mp hi).1
  have cne := I.cne
  have tracked : ∀ {a : Addr} {h' : Heap}, (∃ o, s.heap.get? a = some o ∧ H a = none) → Heap.SameBut a s.heap h' → HOk X.prog X.w H h' := fun {a h'} ha hs b ob e => by
    obtain ⟨_, _, hfree⟩ := ha
    refine (I.hok b ob e).stay (fun c w' hc q => (hs.2 c ?_).trans q) (fun _ q => q) fun _ _ q => q
    rintro rfl
    rcases hc with rfl | hc
    · rw [hfree] at e; cases e
    · rw [hfree] at hc; cases hc
  rcases hx with hk | hk
  · refine wpAny_storeName_local hk hn (fun h' hn' hs => ?_) hcls
    obtain ⟨oL, _, _, hoL, _⟩ := id hn
    refine h _ ⟨I.ok, I.os, I.bare, ⟨fun b o e n hb hx => ?_, fun b o e n hb hx => ?_, I.base.free, fun b o e hx => ?_, I.base.tups, I.base.frzs, I.base.tbls⟩, ⟨_, hn', fun j y v' e1 e2 e3 => ?_⟩, fun y c e => ?_, I.free, I.freeC, fun p hp => ?_, tracked ⟨oL, hoL, I.free⟩ hs, by simpa using I.len⟩ ⟨_, hs, .inl rfl⟩
    · exact (hs.2 b (Nat.ne_of_lt (Nat.lt_of_lt_of_le (Heap.lt_size e) I.ok.above))).trans (I.base.keep b o e n hb hx)
    · obtain ⟨sl, e1⟩ := I.base.slot b o e n hb hx
      exact ⟨sl, (hs.2 b (Nat.ne_of_lt (Nat.lt_of_lt_of_le (Heap.lt_size e) I.ok.above))).trans e1⟩
    · obtain ⟨o', e1⟩ := I.base.there b o e hx
      exact ⟨o', (hs.2 b (Nat.ne_of_lt (Nat.lt_of_lt_of_le (Heap.lt_size e) I.ok.above))).trans e1⟩
    · by_cases hj : j = i
      · subst hj
        rw [hi] at e1; cases e1
        rw [List.getElem?_set_self hiσ] at e2
        cases e2
        exact ⟨u, r, .inl ⟨hk, by simp⟩⟩
      · rw [List.getElem?_set_ne (Ne.symm hj)] at e2
        obtain ⟨u', r', q⟩ := hl j y v' e1 e2 e3
        refine ⟨u', r', ?_⟩
        rcases q with ⟨k, e⟩ | ⟨k, c, e, z⟩
        · refine .inl ⟨k, ?_⟩
          have : y ≠ x := fun e => hj (nodup_ix hN e1 (e ▸ hi))
          simp [this, e]
        · exact .inr ⟨k, c, e, z.sameBut hs (cne y c e)⟩
    · obtain ⟨w', z⟩ := I.cell y c e
      exact ⟨w', z.sameBut hs (cne y c e)⟩
    · obtain ⟨e, n, ne, nf, d⟩ := I.pin p hp
      exact ⟨(hs.2 p.1 ne).trans e, n, ne, nf, d⟩
  · have hfn : X.fn x = true := by
      rcases hf with z | z
      · exact z
      · rw [z] at hk; cases hk
    obtain ⟨c, hc⟩ := I.ok.has x (.inl hk)
    obtain ⟨w', z⟩ := I.cell x c hc
    refine wpAny_storeName_cell I.ok.kind hk hc z (fun h' hc' hs => ?_)
    obtain ⟨oc, hoc, hocd⟩ := id z
    refine h { s with heap := h' } ⟨I.ok, I.os, I.bare, ⟨fun b o e n hb hx => ?_, fun b o e n hb hx => ?_, I.base.free, fun b o e hx => ?_, I.base.tups, I.base.frzs, I.base.tbls⟩, ⟨m, hn.sameBut hs (Ne.symm (cne x c hc)), fun j y v' e1 e2 e3 => ?_⟩, fun y c' e => ?_, I.free, I.freeC, fun p hp => ?_, tracked ⟨oc, hoc, I.freeC x c hc⟩ hs, by simpa using I.len⟩ ⟨c, hs, .inr hc⟩
    · exact (hs.2 b (Nat.ne_of_lt (Nat.lt_of_lt_of_le (Heap.lt_size e) (I.ok.cab x c hfn hc)))).trans (I.base.keep b o e n hb hx)
    · obtain ⟨sl, e1⟩ := I.base.slot b o e n hb hx
      exact ⟨sl, (hs.2 b (Nat.ne_of_lt (Nat.lt_of_lt_of_le (Heap.lt_size e) (I.ok.cab x c hfn hc)))).trans e1⟩
    · obtain ⟨o', e1⟩ := I.base.there b o e hx
      exact ⟨o', (hs.2 b (Nat.ne_of_lt (Nat.lt_of_lt_of_le (Heap.lt_size e) (I.ok.cab x c hfn hc)))).trans e1⟩
    · by_cases hj : j = i
      · subst hj
        rw [hi] at e1; cases e1
        rw [List.getElem?_set_self hiσ] at e2
        cases e2
        exact ⟨u, r, .inr ⟨.inl hk, c, hc, hc'⟩⟩
      · rw [List.getElem?_set_ne (Ne.symm hj)] at e2
        obtain ⟨u', r', q⟩ := hl j y v' e1 e2 e3
        refine ⟨u', r', ?_⟩
        rcases q with q | ⟨k, c', e, z'⟩
        · exact .inl q
        · refine .inr ⟨k, c', e, z'.sameBut hs ?_⟩
          rintro rfl
          exact hj (nodup_ix hN e1 (I.ok.inj _ _ _ e hc ▸ hi))
    · by_cases hcc : c' = c
      · subst hcc; exact ⟨_, hc'⟩
      · obtain ⟨w2, z2⟩ := I.cell y c' e
        exact ⟨w2, z2.sameBut hs hcc⟩
    · obtain ⟨e, n, ne, nf, d⟩ := I.pin p hp
      refine ⟨(hs.2 p.1 ?_).trans e, n, ne, nf, d⟩
      intro q
      rw [q, hoc] at e
      have q' : oc = p.2 := Option.some.inj e
      exact d w' (by rw [← q']; exact hocd)
theorem store_ok {M : Model} {A : Around} {E : Value → Shared → Prop} {i : Nat} {x : Str} {v : V} {u : Value} {Q : Unit → Shared → Prop} (I : Inv X pins σ H s) (hN : X.N.Nodup) (hi : X.N[i]? = some x) (hx : Loc X.env.scope x) (r : RelV v u)
    (h : ∀ s', Inv X pins (σ.set i (some v)) H s' → Q () s') (hf : X.fn x = true ∨ X.env.scope.names.lookup x = some .local := by first | exact .inl rfl | exact .inr rfl | assumption) : wpAny M A (storeName X.env x u) Q E s :=
  store_ok2 I hN hi hx r (fun s' I' _ => h s' I') hf
theorem Inv.call' {s' : Shared} {ch : List Addr} (I : Inv X pins σ H s) (ho : s'.os = s.os) (u : Un (frs X.stack) ch H H' s.heap s'.heap) (hok : HOk X.prog X.w H' s'.heap) (hg : AllBare s'.gens)
    (hch : ∀ b ∈ ch, (b ∈ X.ex ∨ X.s₀.heap.objs.size ≤ b) ∧ b ≠ X.env.locals ∧ (∀ x c, X.env.cells.lookup x = some c → c ≠ b) ∧ ∀ p ∈ X.pn ++ pins, p.1 ≠ b) : Inv X pins σ H' s' := by
  obtain ⟨h', g', d', t', o'⟩ := s'
  have e : o' = s.os := ho
  subst e
  exact I.call (g' := g') (t' := t') (d' := d') u hok hg hch
end
abbrev XK := Value → Option Addr → Hp → Prop
abbrev St := List (Option V)
abbrev VK := V → Hp → Prop
abbrev TE := St → Hp → VK → Prop
abbrev TT := St → Hp → (Bool → Hp → Prop) → Prop
abbrev TA := St → Hp → (List V → Hp → Prop) → Prop
structure Ends where
  nx : St → Hp → Prop
  rt : VK
  bk : St → Hp → Prop := fun _ _ => False
  ct : St → Hp → Prop := fun _ _ => False
abbrev TS := Ends → St → Hp → Prop
inductive EP (X : Cx) (pins : List (Addr × Obj)) (σ : St) (Q : VK) (u : Value) (s' : Shared) : Prop
  | mk (v H') (h1 : Inv X pins σ H' s') (h2 : RelV v u) (h3 : Q v H')
def TP (X : Cx) (pins : List (Addr × Obj)) (σ : St) (Q : Bool → Hp → Prop) (b : Bool) (s' : Shared) : Prop := ∃ H', Inv X pins σ H' s' ∧ Q b H'
inductive AP (X : Cx) (pins : List (Addr × Obj)) (σ : St) (Q : List V → Hp → Prop) (us : List Value) (s' : Shared) : Prop
  | mk (vs H') (h1 : Inv X pins σ H' s') (h2 : Vals vs us) (h3 : Q vs H')
def SP (X : Cx) (pins : List (Addr × Obj)) (D : Ends) (f : Flow) (s' : Shared) : Prop :=
  match f with
  | .next => ∃ σ' H', Inv X pins σ' H' s' ∧ D.nx σ' H'
  | .brk => ∃ σ' H', Inv X pins σ' H' s' ∧ D.bk σ' H'
  | .cont => ∃ σ' H', Inv X pins σ' H' s' ∧ D.ct σ' H'
  | .ret u => ∃ v σ' H', Inv X pins σ' H' s' ∧ RelV v u ∧ D.rt v H'
def PE (X : Cx) (e : Expr) (t : TE) : Prop :=
  ∀ (pins : List (Addr × Obj)) (s : Shared) (σ : St) (H : Hp) (Q : VK), Inv X pins σ H s → t σ H Q → wpAny (model X.prog X.w) X.A (eval e X.env) (EP X pins σ Q) X.xe s
def PT (X : Cx) (e : Expr) (t : TT) : Prop :=
  ∀ (pins : List (Addr × Obj)) (s : Shared) (σ : St) (H : Hp) (Q : Bool → Hp → Prop), Inv X pins σ H s → t σ H Q → wpAny (model X.prog X.w) X.A (isTrue e X.env (eval e X.env)) (TP X pins σ Q) X.xe s
def PW (X : Cx) (e : Expr) (t : TT) : Prop :=
  ∀ (whole : Sem Value) (pins : List (Addr × Obj)) (s : Shared) (σ : St) (H : Hp) (Q : Bool → Hp → Prop), Inv X pins σ H s → t σ H Q → wpAny (model X.prog X.w) X.A (isTrue e X.env whole) (TP X pins σ Q) X.xe s
theorem PW.pt {X : Cx} {e : Expr} {t : TT} (h : PW X e t) : PT X e t := h _
def PA (X : Cx) (es : List Expr) (t : TA) : Prop :=
  ∀ (pos : Pos) (pins : List (Addr × Obj)) (s : Shared) (σ : St) (H : Hp) (Q : List V → Hp → Prop), Inv X pins σ H s → t σ H Q → wpAny (model X.prog X.w) X.A (spliced (backTo pos (starEach es X.env))) (AP X pins σ Q) X.xe s
def PS (X : Cx) (st : Stmt) (t : TS) : Prop :=
  ∀ (pins : List (Addr × Obj)) (s : Shared) (σ : St) (H : Hp) (D : Ends), Inv X pins σ H s → t D σ H → wpAny (model X.prog X.w) X.A (exec st X.env) (SP X pins D) X.xe s
def PSs (X : Cx) (st : List Stmt) (t : TS) : Prop :=
  ∀ (pins : List (Addr × Obj)) (s : Shared) (σ : St) (H : Hp) (D : Ends), Inv X pins σ H s → t D σ H → wpAny (model X.prog X.w) X.A (execs st X.env) (SP X pins D) X.xe s
theorem thn {α : Type} {t : Sem α} {Q Q' : α → Shared → Prop} {M : Model} {A : Around} {E : Value → Shared → Prop} {s : Shared} (h : wpAny M A t Q E s) (hQ : ∀ a s, Q a s → Q' a s) : wpAny M A t Q' E s := wpAny_mono h hQ fun _ _ x => x
end L2
namespace L2
open PySem PySem.Spec PyProof.Rows
section
variable {X : Cx}
inductive tVar (i : Nat) (σ : St) (H : Hp) (Q : VK) : Prop
  | mk (v) (h1 : σ[i]? = some (some v)) (h2 : Q v H) : tVar i σ H Q
def tC (v : V) : TE := fun _ H Q => Q v H
theorem pe_var {i : Nat} {x : Str} {pos : Pos} (hN : X.N[i]? = some x) (hv : Vis X.env.scope x) (hd : (x == ("__debug__" : Str)) = false := by decide) (hcd : (x == ("__classdict__" : Str)) = false := by decide) : PE X (.Name x pos) (tVar i) := by
  intro pins s σ H Q I h
  obtain ⟨v, e, h⟩ := h
  obtain ⟨m, hn, hl⟩ := I.loc
  obtain ⟨u, r, l⟩ := hl i x v hN e hv
  have fin : EP X pins σ Q u s := ⟨v, H, I, r, h⟩
  rcases l with ⟨hk, hm⟩ | ⟨hk, c, hc, hcell⟩
  · exact wpAny_Name (wpAny_loadName_local I.ok.kind hk hn hm fin) hd
  · rcases hk with hk | hk
    · exact wpAny_Name (wpAny_loadName_cell I.ok.kind hk hc hcell fin) hd
    · exact wpAny_Name (wpAny_loadName_free I.ok.kind hk hc hcell fin hcd) hd
theorem pe_int {i j pos} : PE X (.Constant (.int i) j pos) (tC (.int i)) := fun _ _ _ H _ I h => wpAny_Constant_int ⟨.int i, H, I.tok _, ⟨_, rfl⟩, h⟩
theorem pe_bl {b j pos} : PE X (.Constant (.bool b) j pos) (tC (.bl b)) := fun _ _ _ H _ I h => Constant_bool ⟨.bl b, H, I, rfl, h⟩
theorem pe_non {j pos} : PE X (.Constant .none j pos) (tC .non) := fun _ _ _ H _ I h => Constant_none ⟨.non, H, I, rfl, h⟩
theorem pe_str {x j pos} : PE X (.Constant (.str x) j pos) (tC (.str x)) := fun _ _ _ H _ I h => Calls.Constant_str ⟨.str x, H, I.tok _, ⟨_, rfl⟩, h⟩
def Gl (X : Cx) (x : Str) : Prop := X.env.kindOf x = some .globalImplicit
theorem ld_glob {E : Value → Shared → Prop} {pins : List (Addr × Obj)} {s : Shared} {σ : St} {H : Hp} {x : Str} {u : Value} {pos : Pos} {Q : Value → Shared → Prop} (I : Inv X pins σ H s) (hg : Gl X x) (hm : X.mg x = some u) (h : Q u s)
    (hd : (x == ("__debug__" : Str)) = false := by decide) : wpAny (model X.prog X.w) X.A (eval (.Name x pos) X.env) Q E s :=
  Calls.Name_function_global I.ok.kind hg (Calls.loadGlobal_global (by rw [I.ok.glob]; exact I.mod.glob.keeps I.bk) hm h) hd
theorem ld_blt {E : Value → Shared → Prop} {pins : List (Addr × Obj)} {s : Shared} {σ : St} {H : Hp} {x : Str} {u : Value} {pos : Pos} {Q : Value → Shared → Prop} (I : Inv X pins σ H s) (hg : Gl X x) (hm : X.mg x = none) (hv : bootBuiltins x = some u) (h : Q u s)
    (hn : x ≠ "__name__" := by decide) (hd : (x == ("__debug__" : Str)) = false := by decide) : wpAny (model X.prog X.w) X.A (eval (.Name x pos) X.env) Q E s := by
  obtain ⟨mb, h1, h2⟩ := I.mod.blt
  exact Calls.Name_function_global I.ok.kind hg (Calls.loadGlobal_builtin (by rw [I.ok.glob]; exact I.mod.glob.keeps I.bk) hm (by rw [I.ok.blt]; exact h1.keeps I.bk) ((h2 x hn).trans hv) h) hd
theorem pe_glob {x : Str} {v : V} {u : Value} {pos : Pos} (hg : Gl X x) (hm : X.mg x = some u) (r : RelV v u) (hd : (x == ("__debug__" : Str)) = false := by decide) : PE X (.Name x pos) (tC v) :=
  fun _ _ _ H _ I h => ld_glob I hg hm ⟨v, H, I, r, h⟩ hd
theorem pe_bltn {x : Str} {v : V} {u : Value} {pos : Pos} (hg : Gl X x) (hm : X.mg x = none) (hv : bootBuiltins x = some u) (r : RelV v u) (hn : x ≠ "__name__" := by decide) (hd : (x == ("__debug__" : Str)) = false := by decide) : PE X (.Name x pos) (tC v) :=
  fun _ _ _ H _ I h => ld_blt I hg hm hv ⟨v, H, I, r, h⟩ hn hd
variable {a b : Expr} {ta tb : TE} {pos : Pos}
def PC (X : Cx) (op : CmpOp) (a b : Expr) (t : TE) : Prop :=
  ∀ (pins : List (Addr × Obj)) (s : Shared) (σ : St) (H : Hp) (Q : VK), Inv X pins σ H s → t σ H Q →
    wpAny (model X.prog X.w) X.A (eval a X.env) (fun v s₁ => wpAny (model X.prog X.w) X.A (eval b X.env) (fun u s₂ => wpAny (model X.prog X.w) X.A (compareOp op v u) (EP X pins σ Q) X.xe s₂) X.xe s₁) X.xe s
theorem nobehind (b : Expr) {op : CmpOp} (h : op ≠ .In) (h2 : op ≠ .NotIn) : behindInMarks op b = false := by
  have e1 : (op == CmpOp.In) = false := by cases op <;> first | rfl | exact absurd rfl h
  have e2 : (op == CmpOp.NotIn) = false := by cases op <;> first | rfl | exact absurd rfl h2
  cases b <;> simp [behindInMarks, e1, e2]
def tIsN (ta : TE) : TE := fun σ H Q => ta σ H fun x H1 => Q (.bl (decide (x = .non))) H1
theorem RelV.none_iff {x : V} {v : Value} (r : RelV x v) : (v == Value.none) = decide (x = .non) := by
  cases x with
  | non => cases r; rfl
  | bl _ => cases r; rfl
  | int _ => obtain ⟨t, rfl⟩ := r; rfl
  | str _ => obtain ⟨t, rfl⟩ := r; rfl
  | byt _ => obtain ⟨t, rfl⟩ := r; rfl
  | flt _ => obtain ⟨t, rfl⟩ := r; rfl
  | ref _ => cases r; rfl
  | ty _ => cases r; rfl
theorem pc_isN {j pos'} (ha : PE X a ta) : PC X .Is a (.Constant .none j pos') (tIsN ta) := by
  intro pins s σ H Q I h
  refine thn (ha pins s σ H _ I h) fun v s1 ⟨x, H1, I1, r1, q1⟩ => ?_
  exact Constant_none (is_none_gen ⟨.bl _, H1, I1, by rw [r1.none_iff]; rfl, q1⟩)
inductive tbR (x : V) (H1 : Hp) (Q : Bool → Hp → Prop) : Prop
  | mk (c) (h1 : x = .bl c) (h2 : Q c H1) : tbR x H1 Q
def tB (t : TE) : TT := fun σ H Q => t σ H fun x H1 => tbR x H1 Q
theorem pe_cmp {op : CmpOp} {t : TE} (h : PC X op a b t) (h1 : behindInMarks op b = false := by first | exact nobehind _ (by decide) (by decide) | rfl) : PE X (.Compare a [op] [b] pos) t := fun pins s σ H Q I hw => wpAny_Compare1 (h pins s σ H Q I hw) h1
theorem pt_cmp {op : CmpOp} {t : TE} (h : PC X op a b t) (h1 : behindInMarks op b = false := by first | exact nobehind _ (by decide) (by decide) | rfl) : PT X (.Compare a [op] [b] pos) (tB t) := by
  intro pins s σ H Q I hw
  refine wpAny_isTrue_Compare1 (thn (h pins s σ H _ I hw) fun v s1 h1 => thn h1 fun u s2 h2 => thn h2 fun c s3 ⟨x, H1, I1, r1, q1⟩ => ?_) h1
  obtain ⟨d, rfl, q⟩ := q1
  cases r1
  exact wpAny_truthy_bool ⟨H1, I1, q⟩
theorem pt_val {e : Expr} {t : TE} (h : PE X e t) (he : ∀ whole, isTrue e X.env whole = (do let v ← whole; standAt e.pos; holding [v] (truthy v)) := by intro _; rfl) : PT X e (tB t) := by
  intro pins s σ H Q I hw
  refine isTrue_plain (thn (h pins s σ H _ I hw) fun v s1 ⟨x, H1, I1, r1, q1⟩ => ?_) (he _)
  obtain ⟨d, rfl, q⟩ := q1
  cases r1
  exact wpAny_truthy_bool ⟨H1, I1, q⟩
variable {tA tB' : TT} {rest : List Expr}
def tAnd (t u : TT) : TT := fun σ H Q => t σ H fun c H1 => if c = true then u σ H1 Q else Q false H1
def tOr (t u : TT) : TT := fun σ H Q => t σ H fun c H1 => if c = true then Q true H1 else u σ H1 Q
def tNot (t : TT) : TT := fun σ H Q => t σ H fun c H1 => Q (!c) H1
theorem pw_and1 (ha : PT X a tA) : PW X (.BoolOp .And [a] pos) tA := by
  intro wh pins s σ H Q I h
  refine isTrue_and (thn (ha pins s σ H Q I h) fun c s1 e => ?_)
  cases c with
  | true => exact isTrue_and_nil e
  | false => exact e
theorem pw_or1 (ha : PT X a tA) : PW X (.BoolOp .Or [a] pos) tA := by
  intro wh pins s σ H Q I h
  refine isTrue_or (thn (ha pins s σ H Q I h) fun c s1 e => ?_)
  cases c with
  | false => exact isTrue_or_nil e
  | true => exact e
theorem pw_and (ha : PT X a tA) (hb : PW X (.BoolOp .And (b :: rest) pos) tB') : PW X (.BoolOp .And (a :: b :: rest) pos) (tAnd tA tB') := by
  intro wh pins s σ H Q I h
  refine isTrue_and (thn (ha pins s σ H _ I h) fun c s1 ⟨H1, I1, q1⟩ => ?_)
  cases c with
  | true => exact hb wh pins s1 σ H1 Q I1 q1
  | false => exact ⟨H1, I1, q1⟩
theorem pw_or (ha : PT X a tA) (hb : PW X (.BoolOp .Or (b :: rest) pos) tB') : PW X (.BoolOp .Or (a :: b :: rest) pos) (tOr tA tB') := by
  intro wh pins s σ H Q I h
  refine isTrue_or (thn (ha pins s σ H _ I h) fun c s1 ⟨H1, I1, q1⟩ => ?_)
  cases c with
  | true => exact ⟨H1, I1, q1⟩
  | false => exact hb wh pins s1 σ H1 Q I1 q1
theorem pt_not (ha : PT X a tA) : PT X (.UnaryOp .Not a pos) (tNot tA) := by
  intro pins s σ H Q I h
  exact isTrue_not (ha pins s σ H (fun c H1 => Q (!c) H1) I h)
def tAndV (ta tb : TE) : TE := fun σ H Q => ta σ H fun x H1 => ∃ c, x = .bl c ∧ if c = true then tb σ H1 Q else Q (.bl false) H1
def tNotV (ta : TE) : TE := fun σ H Q => ta σ H fun x H1 => ∃ c, x = .bl c ∧ Q (.bl (!c)) H1
theorem pe_one {op} {t : TE} (h : PE X a t) : PE X (.BoolOp op [a] pos) t := fun pins s σ H Q I hw => BoolOp_one (h pins s σ H Q I hw)
theorem pe_and (ha : PE X a ta) (hb : PE X (.BoolOp .And (b :: rest) pos) tb) : PE X (.BoolOp .And (a :: b :: rest) pos) (tAndV ta tb) := by
  intro pins s σ H Q I h
  refine BoolOp_and (thn (ha pins s σ H _ I h) fun v s1 ⟨x, H1, I1, r1, q1⟩ => ?_)
  obtain ⟨c, rfl, q1⟩ := q1
  cases r1
  refine wpAny_truthy_bool ?_
  cases c with
  | true => exact hb pins s1 σ H1 Q I1 q1
  | false => exact ⟨.bl false, H1, I1, rfl, q1⟩
theorem pe_not (ha : PE X a ta) : PE X (.UnaryOp .Not a pos) (tNotV ta) := by
  intro pins s σ H Q I h
  refine UnaryOp_ (thn (ha pins s σ H _ I h) fun v s1 ⟨x, H1, I1, r1, q1⟩ => ?_)
  obtain ⟨c, rfl, q1⟩ := q1
  cases r1
  exact not_of (wpAny_truthy_bool ⟨.bl (!c), H1, I1, rfl, q1⟩)
end
end L2
namespace L2
open PySem PySem.Spec PyProof.Rows
def SqL (K : PySem.W.Frag) (H : Hp) (a : Addr) (xs : List V) : Prop :=
  Rd H a (.lst xs) ∨
    ∃ (o : Obj) (its : Array Value) (n : Nat), K.lookup a = some o ∧ o.cls = .type "list" ∧ o.dict = none ∧ o.data = .seq its n ∧ its.size ≤ sizeLine ∧ Vals xs its.toList
def SqT (K : PySem.W.Frag) (H : Hp) (a : Addr) (xs : List V) : Prop :=
  Rd H a (.tup xs) ∨
    ∃ (o : Obj) (its : Array Value) (n : Nat), K.lookup a = some o ∧ o.cls = .type "tuple" ∧ o.data = .seq its n ∧ its.size ≤ sizeLine ∧ Vals xs its.toList
def absV : Value → Option V
  | .none => some .non
  | .bool b => some (.bl b)
  | .int i _ => some (.int i)
  | .str x _ => some (.str x)
  | .bytes b _ => some (.byt b)
  | .float b _ => some (.flt b)
  | .ref a => some (.ref a)
  | .type n => some (.ty n)
  | _ => none
theorem RelV.abs {x : V} {u : Value} (r : RelV x u) : absV u = some x := by
  cases x with
  | non => cases r; rfl
  | bl _ => cases r; rfl
  | int _ => obtain ⟨t, rfl⟩ := r; rfl
  | str _ => obtain ⟨t, rfl⟩ := r; rfl
  | byt _ => obtain ⟨t, rfl⟩ := r; rfl
  | flt _ => obtain ⟨t, rfl⟩ := r; rfl
  | ref _ => cases r; rfl
  | ty _ => cases r; rfl
theorem RelV.inj {x y : V} {u : Value} (r : RelV x u) (q : RelV y u) : x = y := Option.some.inj (r.abs.symm.trans q.abs)
theorem Vals.inj : ∀ {xs ys : List V} {us : List Value}, Vals xs us → Vals ys us → xs = ys
  | _, _, _, .nil, .nil => rfl
  | _, _, _, .cons r t, .cons r' t' => by rw [r.inj r', Vals.inj t t']
section
variable {X : Cx} {pins : List (Addr × Obj)} {σ : St} {H : Hp} {s : Shared} {a : Addr} {xs ys : List V}
theorem SqL.of {K : PySem.W.Frag} (h : H a = some (.lst xs)) : SqL K H a xs := .inl (.inl h)
theorem SqT.of {K : PySem.W.Frag} (h : H a = some (.tup xs)) : SqT K H a xs := .inl (.inl h)
theorem Inv.list (I : Inv X pins σ H s) (h : SqL X.K H a xs) : ∃ its : List Value, Vals xs its ∧ PlainL s.heap a its.toArray ∧ xs.length ≤ sizeLine := by
  rcases h with h | ⟨o, its, n, hk, hc, hd, hs, hz, r⟩
  · obtain ⟨z, its, n, r, e⟩ := h.ok I.hok
    exact ⟨its, r, ⟨_, n, e, rfl, rfl, rfl⟩, z⟩
  · refine ⟨its.toList, r, ⟨o, n, I.kIn a o hk, hc, hd, by simpa using hs⟩, ?_⟩
    have e := r.length
    simp only [Array.length_toList] at e
    omega
theorem Inv.tuple (I : Inv X pins σ H s) (h : SqT X.K H a xs) : ∃ its : List Value, Vals xs its ∧ IsTup s.heap a its.toArray ∧ xs.length ≤ sizeLine := by
  rcases h with h | ⟨o, its, n, hk, hc, hs, hz, r⟩
  · obtain ⟨z, its, r, p⟩ := h.ok I.hok
    exact ⟨its, r, p, z⟩
  · refine ⟨its.toList, r, ⟨o, I.kIn a o hk, hc, n, by simpa using hs⟩, ?_⟩
    have e := r.length
    simp only [Array.length_toList] at e
    omega
theorem Inv.list_inj (I : Inv X pins σ H s) (h : SqL X.K H a xs) (h' : SqL X.K H a ys) : xs = ys := by
  obtain ⟨its, r, ⟨o, n, e, _, _, d⟩, _⟩ := I.list h
  obtain ⟨its', r', ⟨o', n', e', _, _, d'⟩, _⟩ := I.list h'
  rw [e] at e'; cases e'
  rw [d] at d'
  injection d' with d1 _
  have : its = its' := by simpa using congrArg Array.toList d1
  subst this
  exact r.inj r'
end
abbrev Cx.wish (X : Cx) (E : Value → Shared → Prop) : Cx := { X with xe := E }
abbrev Cx.nox (X : Cx) : Cx := X.wish fun _ _ => False
theorem Cx.Ok.wish {X : Cx} (ok : X.Ok) (E : Value → Shared → Prop) : (X.wish E).Ok :=
  ⟨ok.mod, ok.kind, ok.glob, ok.blt, ok.above, ok.inj, ok.has, ok.cab, ok.hd, ok.frames, ok.stk, ok.exf, ok.bs, ok.bsz, ok.noex, ok.exfs, ok.funs, ok.frf⟩
theorem Cx.Ok.unwish {X : Cx} {E : Value → Shared → Prop} (ok : (X.wish E).Ok) : X.Ok :=
  ⟨ok.mod, ok.kind, ok.glob, ok.blt, ok.above, ok.inj, ok.has, ok.cab, ok.hd, ok.frames, ok.stk, ok.exf, ok.bs, ok.bsz, ok.noex, ok.exfs, ok.funs, ok.frf⟩
section
variable {X : Cx} {pins : List (Addr × Obj)} {σ : St} {H : Hp} {s : Shared} {E : Value → Shared → Prop}
theorem Inv.wish (I : Inv X pins σ H s) (E : Value → Shared → Prop) : Inv (X.wish E) pins σ H s := ⟨I.ok.wish E, I.os, I.bare, I.base, I.loc, I.cell, I.free, I.freeC, I.pin, I.hok, I.len⟩
theorem Inv.unwish (I : Inv (X.wish E) pins σ H s) : Inv X pins σ H s := ⟨I.ok.unwish, I.os, I.bare, I.base, I.loc, I.cell, I.free, I.freeC, I.pin, I.hok, I.len⟩
theorem SP.unwish {D : Ends} {f : Flow} {s' : Shared} (h : SP (X.wish E) pins D f s') : SP X pins D f s' := by
  cases f with
  | next => obtain ⟨σ', H', I, q⟩ := h; exact ⟨σ', H', I.unwish, q⟩
  | brk => obtain ⟨σ', H', I, q⟩ := h; exact ⟨σ', H', I.unwish, q⟩
  | cont => obtain ⟨σ', H', I, q⟩ := h; exact ⟨σ', H', I.unwish, q⟩
  | ret u => obtain ⟨v, σ', H', I, r, q⟩ := h; exact ⟨v, σ', H', I.unwish, r, q⟩
theorem PSs.nox {st : List Stmt} {t : TS} (h : PSs X.nox st t) : PSs X st t := fun pins s σ H D I hw =>
  wpAny_mono (h pins s σ H D (I.wish _) hw) (fun _ _ q => q.unwish) fun _ _ z => False.elim z
end
section
variable {X : Cx} {st : Stmt} {rest : List Stmt} {t u : TS} {e : Expr} {te : TE} {pos : Pos}
def tNext : TS := fun D σ H => D.nx σ H
def tSeq (t u : TS) : TS := fun D σ H => t { D with nx := u D } σ H
theorem pss_nil : PSs X [] tNext := fun _ _ σ H _ I h => wpAny_execs_nil ⟨σ, H, I, h⟩
theorem pss_cons (h1 : PS X st t) (h2 : PSs X rest u) : PSs X (st :: rest) (tSeq t u) := by
  intro pins s σ H D I h
  refine wpAny_execs_cons (thn (h1 pins s σ H { D with nx := u D } I h) fun f s1 q => ?_)
  cases f with
  | next =>
    obtain ⟨σ', H', I', q⟩ := q
    exact h2 pins s1 σ' H' D I' q
  | ret v => exact q
  | brk => exact q
  | cont => exact q
theorem pss_one (h1 : PS X st t) : PSs X [st] t := by
  intro pins s σ H D I h
  refine wpAny_execs_cons (thn (h1 pins s σ H D I h) fun f s1 q => ?_)
  cases f with
  | next => exact wpAny_execs_nil q
  | ret v => exact q
  | brk => exact q
  | cont => exact q
theorem Inv.quiet {pins : List (Addr × Obj)} {σ : St} {H : Hp} {s : Shared} (I : Inv X pins σ H s) : interactive X.env = false := by simp [interactive, I.ok.kind]
def tDrop (te : TE) : TS := fun D σ H => te σ H fun _ H1 => D.nx σ H1
theorem ps_expr (he : PE X e te) (hs : swapsWith e none pos.line X.env = pure false := by rfl) : PS X (.Expr e pos) (tDrop te) := by
  intro pins s σ H D I h
  exact wpAny_Expr_any (thn (he pins s σ H _ I h) fun v s1 ⟨x, H1, I1, r1, q1⟩ => ⟨σ, H1, I1, q1⟩) I.quiet hs
def tRet (te : TE) : TS := fun D σ H => te σ H D.rt
theorem ps_ret (he : PE X e te) : PS X (.Return (some e) pos) (tRet te) := by
  intro pins s σ H D I h
  exact wpAny_Return_some (thn (he pins s σ H _ I h) fun v s1 ⟨x, H1, I1, r1, q1⟩ => ⟨x, σ, H1, I1, r1, q1⟩)
def tIfS (c : TT) (t u : TS) : TS := fun D σ H => c σ H fun b H1 => if b = true then t D σ H1 else u D σ H1
theorem ps_if {c : Expr} {a b : List Stmt} {tc : TT} (hc : PT X c tc) (ha : PSs X a t) (hb : PSs X b u) : PS X (.If c a b pos) (tIfS tc t u) := by
  intro pins s σ H D I h
  refine wpAny_If (thn (hc pins s σ H _ I h) fun d s1 ⟨H1, I1, q1⟩ => ?_)
  cases d with
  | true => exact ha pins s1 σ H1 D I1 q1
  | false => exact hb pins s1 σ H1 D I1 q1
def tNever : TS := fun _ _ _ => False
theorem ps_never : PS X st tNever := fun _ _ _ _ _ _ h => h.elim
end
abbrev TG := V → St → Hp → (St → Hp → Prop) → Prop
abbrev TGs := List V → St → Hp → (St → Hp → Prop) → Prop
def PG (X : Cx) (target : Expr) (t : TG) : Prop :=
  ∀ (pins : List (Addr × Obj)) (s : Shared) (σ : St) (H : Hp) (v : V) (u : Value) (Q : St → Hp → Prop), Inv X pins σ H s → RelV v u → t v σ H Q →
    wpAny (model X.prog X.w) X.A (assign target X.env u) (fun _ s' => ∃ σ' H', Inv X pins σ' H' s' ∧ Q σ' H') X.xe s
def PGs (X : Cx) (ts : List Expr) (t : TGs) : Prop :=
  ∀ (pins : List (Addr × Obj)) (s : Shared) (σ : St) (H : Hp) (vs : List V) (us : List Value) (Q : St → Hp → Prop), Inv X pins σ H s → Vals vs us → t vs σ H Q →
    wpAny (model X.prog X.w) X.A (assignInOrder ((assignEach ts X.env).map (·.2)) us) (fun _ s' => ∃ σ' H', Inv X pins σ' H' s' ∧ Q σ' H') X.xe s
section
variable {X : Cx} {pos : Pos}
def gName (i : Nat) : TG := fun v σ H Q => Q (σ.set i (some v)) H
theorem pg_name {i : Nat} {x : Str} (hN : X.N.Nodup) (hi : X.N[i]? = some x) (hx : Loc X.env.scope x) (hf : X.fn x = true ∨ X.env.scope.names.lookup x = some .local := by first | exact .inl rfl | exact .inr rfl | assumption) : PG X (.Name x pos) (gName i) := by
  intro pins s σ H v u Q I r h
  exact wpAny_assign_Name (store_ok I hN hi hx r (fun s' I' => ⟨_, H, I', h⟩) hf)
def gNil : TGs := fun vs σ H Q => vs = [] ∧ Q σ H
inductive gCons (t : TG) (u : TGs) (vs : List V) (σ : St) (H : Hp) (Q : St → Hp → Prop) : Prop
  | mk (v r) (h1 : vs = v :: r) (h2 : t v σ H fun σ' H' => u r σ' H' Q) : gCons t u vs σ H Q
theorem pgs_nil : PGs X [] gNil := by
  intro pins s σ H vs us Q I r h
  obtain ⟨e, h⟩ := h
  subst e
  cases r
  exact assignInOrder_nil ⟨σ, H, I, h⟩
theorem pgs_cons {e : Expr} {es : List Expr} {t : TG} {u : TGs} (h1 : PG X e t) (h2 : PGs X es u)
    (hs : (assignEach (e :: es) X.env).map (·.2) = assign e X.env :: (assignEach es X.env).map (·.2) := by rfl) : PGs X (e :: es) (gCons t u) := by
  intro pins s σ H vs us Q I r h
  obtain ⟨v, vr, e1, h⟩ := h
  subst e1
  cases r with
  | cons r rr =>
    rw [hs]
    refine assignInOrder_cons (thn (h1 pins s σ H _ _ _ I r h) fun _ s1 ⟨σ1, H1, I1, q1⟩ => ?_)
    exact h2 pins s1 σ1 H1 _ _ Q I1 rr q1
inductive gTup (K : PySem.W.Frag) (n : Nat) (t : TGs) (v : V) (σ : St) (H : Hp) (Q : St → Hp → Prop) : Prop
  | mk (a xs) (h1 : v = .ref a) (h2 : SqT K H a xs) (h3 : xs.length = n) (h4 : t xs σ H Q) : gTup K n t v σ H Q
theorem pg_tup {es : List Expr} {k : Nat} {t : TGs} {n : Nat} (hc : X.calm = true) (h : PGs X es t)
    (hn : (assignEach es X.env).length = n := by rfl) (hst : (assignEach es X.env).findIdx? (·.1) = none := by rfl) : PG X (.Tuple es k pos) (gTup X.K n t) := by
  intro pins s σ H v u Q I r hw
  obtain ⟨a, xs, e1, hq, hl, hw⟩ := hw
  subst e1
  cases r
  obtain ⟨its, rv, ht, hz⟩ := I.tuple hq
  refine assign_Tuple_tuple (I.ok.hd hc) ht (by simp [hn, ← hl, rv.length]) hst fun h' hx => ?_
  have I1 : Inv X pins σ H { s with heap := h' } := I.kept (t' := s.toks) fun b o e => hx b o (Nat.ne_of_lt (Heap.lt_size e)) e
  exact h pins _ σ H xs _ Q I1 (by simpa using rv) hw
def tAsg (te : TE) (g : TG) : TS := fun D σ H => te σ H fun x H1 => g x σ H1 D.nx
theorem ps_asg {tg e : Expr} {te : TE} {g : TG} (he : PE X e te) (hg : PG X tg g) (hs : swapsWithSole [tg] e pos.line X.env = pure false := by rfl) (hw : swappedStores [tg] e X.env = pure none := by rfl)
    (h1 : (assignEach [tg] X.env).map (·.2) = [assign tg X.env] := by rfl) : PS X (.Assign [tg] e pos) (tAsg te g) := by
  intro pins s σ H D I h
  refine wpAny_Assign_stores (thn (he pins s σ H _ I h) fun v s1 ⟨x, H1, I1, r1, q1⟩ => ?_) hs hw
  rw [h1]
  exact thn (hg pins s1 σ H1 x v _ I1 r1 q1) fun _ s2 q => q
theorem ps_set {i : Nat} {x : Str} {e : Expr} {te : TE} {pos' : Pos} (hN : X.N.Nodup) (hi : X.N[i]? = some x) (hx : Loc X.env.scope x) (he : PE X e te) (hs : swapsWith e (some (.Name x pos')) pos.line X.env = pure false := by rfl) (hf : X.fn x = true ∨ X.env.scope.names.lookup x = some .local := by first | exact .inl rfl | exact .inr rfl | assumption) :
    PS X (.Assign [.Name x pos'] e pos) (tAsg te (gName i)) := by
  intro pins s σ H D I h
  refine wpAny_Assign_Name (thn (he pins s σ H _ I h) fun v s1 ⟨y, H1, I1, r1, q1⟩ => ?_) hs
  exact store_ok I1 hN hi hx r1 (fun s2 I2 => ⟨_, H1, I2, q1⟩) hf
end
section
variable {X : Cx} {pos : Pos}
def tWhile (c : TT) (tb : TS) : TS := fun D σ H => ∃ W : Nat → St → Hp → Prop, (∃ m, W m σ H) ∧ ∀ m σ H, W m σ H →
  c σ H fun b H1 => if b = true then ∃ N : St → Hp → Prop, (∀ σ' H', N σ' H' → ∃ m', m' < m ∧ W m' σ' H') ∧ tb { D with nx := N, ct := N, bk := D.nx } σ H1 else D.nx σ H1
theorem ps_while {c : Expr} {body : List Stmt} {tc : TT} {tb : TS} (hp : PassesOwn (model X.prog X.w) X.A X.env X.xe) (hc : PT X c tc) (hb : PSs X body tb) : PS X (.While c body [] pos) (tWhile tc tb) := by
  intro pins s σ H D I h
  obtain ⟨W, ⟨m0, w0⟩, turn⟩ := h
  refine wpAny_While (codeAny_whileLoop (fun n s' => ∃ σ' H', Inv X pins σ' H' s' ∧ W n σ' H') ?_ m0 ⟨σ, H, I, w0⟩)
  rintro n s1 ⟨σ1, H1, I1, w1⟩
  refine wpAny_passesOwn hp (thn (hc pins s1 σ1 H1 _ I1 (turn n σ1 H1 w1)) fun b s2 ⟨H2, I2, q2⟩ => ?_)
  cases b with
  | true =>
    obtain ⟨N, hN, q2⟩ := q2
    rw [if_pos rfl]
    refine wpAny_passesOwn hp (thn (hb pins s2 σ1 H2 _ I2 q2) fun f s3 q3 => ?_)
    cases f with
    | next =>
      obtain ⟨σ3, H3, I3, n3⟩ := q3
      obtain ⟨m', hm, w3⟩ := hN σ3 H3 n3
      exact ⟨m', hm, σ3, H3, I3, w3⟩
    | cont =>
      obtain ⟨σ3, H3, I3, n3⟩ := q3
      obtain ⟨m', hm, w3⟩ := hN σ3 H3 n3
      exact ⟨m', hm, σ3, H3, I3, w3⟩
    | brk => exact q3
    | ret v => exact q3
  | false =>
    rw [if_neg Bool.false_ne_true]
    exact wpAny_execs_nil ⟨σ1, H2, I2, q2⟩
end
structure It where
  go : Nat → Hp → Prop
  yld : Nat → Hp → V → Hp → Prop
  stop : Nat → Hp → Prop
def FpOk (X : Cx) (pins : List (Addr × Obj)) (H : Hp) (b : Addr) : Prop :=
  H b = none ∧ b ≠ X.env.locals ∧ b ∉ X.fs ∧ (b ∈ X.ex ∨ X.s₀.heap.objs.size ≤ b) ∧ (∀ x c, X.env.cells.lookup x = some c → c ≠ b) ∧ ∀ p ∈ X.pn ++ pins, p.1 ≠ b
theorem Inv.fpOk {X : Cx} {pins : List (Addr × Obj)} {σ : St} {H H' : Hp} {s : Shared} {b : Addr} (I : Inv X pins σ H s) (hb : s.heap.objs.size ≤ b) (hn : H' b = none) : FpOk X pins H' b := by
  refine ⟨hn, Nat.ne_of_gt (Nat.lt_of_lt_of_le I.lt hb), I.nofs hb, .inr (Nat.le_trans I.sz hb), fun x c e z => ?_, fun p hp z => ?_⟩
  · obtain ⟨v, q⟩ := I.cell x c e
    exact absurd (Nat.lt_of_lt_of_le q.lt (by rw [z]; exact hb)) (Nat.lt_irrefl _)
  · exact absurd (Nat.lt_of_lt_of_le (Heap.lt_size (I.pin p hp).1) (by rw [z]; exact hb)) (Nat.lt_irrefl _)
structure Turn (P : Program) (w : World) (K : PySem.W.Frag) (tg : Expr) (J : It) (fp : List Addr) (it : Addr) (tn : Nat → Heap → Prop) : Prop where
  mem : it ∈ fp
  obj : ∀ i h, tn i h → ∀ b ∈ fp, ∃ o, h.get? b = some o ∧ ∀ v, o.data ≠ .cell v
  keep : ∀ i h h', tn i h → (∀ b ∈ fp, ∀ o, h.get? b = some o → h'.get? b = some o) → tn i h'
  item : ∀ (X : Cx), X.prog = P → X.w = w → X.K = K → X.calm = true → ∀ (i : Nat) (pins : List (Addr × Obj)) (s : Shared) (σ : St) (H : Hp) (E : Value → Shared → Prop), Inv X pins σ H s → (∀ b ∈ fp, FpOk X pins H b) → tn i s.heap → J.go i H →
    wpAny (model P w) X.A (pyNext (.ref it)) (fun r s1 => ∃ u, r = some u ∧
      wpAny (model P w) X.A (letOwnedTupleGo tg (.ref it) u) (fun _ s2 => ∃ x H', Inv X pins σ H' s2 ∧ RelV x u ∧ J.yld i H x H' ∧ tn (i + 1) s2.heap ∧ ∀ b ∈ fp, H' b = none) E s1) E s
  done : ∀ (X : Cx), X.prog = P → X.w = w → X.K = K → X.calm = true → ∀ (i : Nat) (pins : List (Addr × Obj)) (s : Shared) (σ : St) (H : Hp) (E : Value → Shared → Prop), Inv X pins σ H s → (∀ b ∈ fp, FpOk X pins H b) → tn i s.heap → J.stop i H →
    wpAny (model P w) X.A (pyNext (.ref it)) (fun r s1 => r = none ∧ Inv X pins σ H s1) E s
  self : ∀ (A : Around) (i : Nat) (s : Shared) (Q : Value → Shared → Prop) (E : Value → Shared → Prop), tn i s.heap → Q (.ref it) s → wpAny (model P w) A (pyIter (.ref it)) Q E s
abbrev TI := St → Hp → (It → Hp → Prop) → Prop
def PIE (X : Cx) (pins : List (Addr × Obj)) (σ : St) (tg : Expr) (R : It → Hp → Prop) (itv : Value) (s2 : Shared) : Prop :=
  ∃ (it : Addr) (fp : List Addr) (tn : Nat → Heap → Prop) (J : It) (H' : Hp), itv = .ref it ∧ Inv X pins σ H' s2 ∧ Turn X.prog X.w X.K tg J fp it tn ∧ tn 0 s2.heap ∧ (∀ b ∈ fp, FpOk X pins H' b) ∧ R J H'
def PI (X : Cx) (tg iter : Expr) (wi : TI) : Prop :=
  ∀ (pins : List (Addr × Obj)) (s : Shared) (σ : St) (H : Hp) (R : It → Hp → Prop), Inv X pins σ H s → wi σ H R →
    wpAny (model X.prog X.w) X.A (eval iter X.env) (fun v s1 => wpAny (model X.prog X.w) X.A (pyIter v) (PIE X pins σ tg R) X.xe s1) X.xe s
theorem go_of {M : Model} {A : Around} {E : Value → Shared → Prop} {s : Shared} {tg : Expr} {it : Addr} {u : Value} {o : Obj} {n : String} {vs : Array Value} {Q : Unit → Shared → Prop} (ho : s.heap.get? it = some o) (hc : o.cls = .type n) (hd : o.data = .fields vs)
    (hn : ["enumerate", "zip", "dict_itemiterator", "dict_reverseitemiterator", "odict_iterator", "itertools.zip_longest", "itertools.pairwise"].contains n = false) (hQ : Q () s) : wpAny M A (letOwnedTupleGo tg (.ref it) u) Q E s := by
  unfold letOwnedTupleGo
  cases tg <;> first
    | exact wpAny_pure hQ
    | (cases u <;> first
        | exact wpAny_pure hQ
        | (refine wpAny_bind (wpAny_load ho ?_)
           rw [hc, hd]
           show wpAny M A (if (["enumerate", "zip", "dict_itemiterator", "dict_reverseitemiterator", "odict_iterator", "itertools.zip_longest", "itertools.pairwise"].contains n && vs[0]? == some (rawInt _)) = true then _ else _) Q E s
           rw [if_neg (by intro h; rw [hn, Bool.false_and] at h; cases h)]
           exact wpAny_pure hQ))
def Itl (K : PySem.W.Frag) (a : Addr) : It :=
  ⟨fun i H => ∃ xs x, SqL K H a xs ∧ xs[i]? = some x, fun i H x H' => H' = H ∧ ∀ xs, SqL K H a xs → xs[i]? = some x, fun i H => ∃ xs, SqL K H a xs ∧ xs.length ≤ i⟩
def Itr (lo : Int) (n : Nat) : It := ⟨fun i _ => i < n, fun i H x H' => H' = H ∧ x = .int (lo + i), fun i _ => n ≤ i⟩
theorem turn_list {P : Program} {w : World} {K : PySem.W.Frag} {tg : Expr} (a it : Addr) : Turn P w K tg (Itl K a) [it] it (fun i h => h.IsListIter it a i) where
  mem := by simp
  obj := fun i h st b hb => by
    have e : b = it := by simpa using hb
    subst e
    obtain ⟨o, e, c, d⟩ := st
    exact ⟨o, e, fun v z => by rw [d] at z; cases z⟩
  keep := fun i h h' st k => st.at fun o e => k it (by simp) o e
  item := by
    intro X hP hw hK hc i pins s σ H E I hf st hg
    subst hP hw hK
    obtain ⟨xs, x, hq, hx⟩ := hg
    obtain ⟨its, rv, p, hz⟩ := I.list hq
    obtain ⟨u, hu, ru⟩ := rv.get hx
    obtain ⟨f0, f1, f2, f3, f4, f5⟩ := hf it (by simp)
    refine wpAny_pyNext_list_item st p.isList (x := u) (by simpa using hu) fun h' st' sb => ?_
    have I1 : Inv X pins σ H { s with heap := h' } := I.turned (t' := s.toks) (fun b o hb e => (sb.2 b hb).trans e) f0 f1 f3 f4 f5
    obtain ⟨o, e, c, d⟩ := id st'
    exact ⟨u, rfl, go_of (s := { s with heap := h' }) e c d (by decide) ⟨x, H, I1, ru, ⟨rfl, fun ys hy => by rw [I.list_inj hy hq]; exact hx⟩, st', fun b hb => (hf b hb).1⟩⟩
  done := by
    intro X hP hw hK hc i pins s σ H E I hf st hg
    subst hP hw hK
    obtain ⟨xs, hq, hx⟩ := hg
    obtain ⟨its, rv, p, hz⟩ := I.list hq
    obtain ⟨f0, f1, f2, f3, f4, f5⟩ := hf it (by simp)
    have hl := rv.length
    exact wpAny_pyNext_list_end (I.ok.hd hc) st p.isList (by simp; omega) fun h' eb => ⟨rfl, I.turned (t' := s.toks) (fun b o hb e => eb b o hb e) f0 f1 f3 f4 f5⟩
  self := fun _ _ _ _ _ st h => wpAny_pyIter_listiter st h
theorem turn_range {P : Program} {w : World} {K : PySem.W.Frag} {tg : Expr} (it : Addr) (lo : Int) (n : Nat) : Turn P w K tg (Itr lo n) [it] it (fun i h => IsRangeIter h it (lo + (i : Nat) * 1) ((n : Int) - (i : Nat)) 1) where
  mem := by simp
  obj := fun i h st b hb => by
    have e : b = it := by simpa using hb
    subst e
    exact ⟨_, st, fun v z => by
      have z' : Data.fields _ = Data.cell v := z
      cases z'⟩
  keep := fun i h h' st k => k it (by simp) _ st
  item := by
    intro X hP hw hK hc i pins s σ H E I hf st hg
    subst hP hw hK
    obtain ⟨f0, f1, f2, f3, f4, f5⟩ := hf it (by simp)
    have W := Walks.range (prog := X.prog) (w := X.w) (I.ok.hd hc) it lo 1 n
    refine W.item i s _ _ hg st fun v h' tk hv st' kk => ?_
    obtain ⟨t, rfl⟩ := hv
    have I1 : Inv X pins σ H { s with heap := h', toks := tk } := I.turned (fun b o hb e => kk b o (by simpa using hb) e) f0 f1 f3 f4 f5
    refine ⟨_, rfl, go_of (s := { s with heap := h', toks := tk }) (n := "range_iterator") st' rfl rfl (by decide) ⟨.int (lo + i), H, I1, ⟨t, ?_⟩, ⟨rfl, rfl⟩, st', fun b hb => (hf b hb).1⟩⟩
    rw [Int.mul_one]
  done := by
    intro X hP hw hK hc i pins s σ H E I hf st hg
    subst hP hw hK
    obtain ⟨f0, f1, f2, f3, f4, f5⟩ := hf it (by simp)
    exact wpAny_pyNext_range_end (I.ok.hd hc) st (by have : n ≤ i := hg; omega) fun h' eb => ⟨rfl, I.turned (t' := s.toks) (fun b o hb e => eb b o hb e) f0 f1 f3 f4 f5⟩
  self := fun _ _ _ _ _ st h => wpAny_pyIter_rangeiter st h
end L2
namespace L2
open PySem PySem.Spec PyProof.Rows
section
variable {X : Cx} {tg : Expr}
def iList (K : PySem.W.Frag) (tl : TE) : TI := fun σ H R => tl σ H fun x H1 => ∃ a, x = .ref a ∧ (∃ xs, SqL K H1 a xs) ∧ R (Itl K a) H1
theorem pi_list {l : Expr} {tl : TE} (hl : PE X l tl) : PI X tg l (iList X.K tl) := by
  intro pins s σ H R I h
  refine thn (hl pins s σ H _ I h) fun v s1 ⟨x, H1, I1, r1, q1⟩ => ?_
  obtain ⟨a, e, ⟨xs, hq⟩, q⟩ := q1
  subst e
  cases r1
  obtain ⟨its, rv, p, hz⟩ := I1.list hq
  refine wpAny_pyIter_list p.isList ?_
  refine ⟨s1.heap.objs.size, [s1.heap.objs.size], _, _, H1, rfl, I1.kept (t' := s1.toks) fun b o e => Heap.get?_push_of_some _ e, turn_list a _, ⟨_, Heap.get?_push_size _ rfl, rfl, rfl⟩, fun b hb => ?_, q⟩
  have e : b = s1.heap.objs.size := by simpa using hb
  subst e
  exact I1.fpOk (Nat.le_refl _) (I1.hok.fresh (Nat.le_refl _))
theorem range_it {pins : List (Addr × Obj)} {σ : St} {H : Hp} {s : Shared} {R : It → Hp → Prop} {E : Value → Shared → Prop} {lo hi : Int} {t u v : Tok} {tk : Nat} (I : Inv X pins σ H s) (h1 : -(2 ^ 62) ≤ lo) (h2 : lo < 2 ^ 62) (h3 : -(2 ^ 62) ≤ hi) (h4 : hi < 2 ^ 62)
    (q : R (Itr lo (hi - lo).toNat) H) : wpAny (model X.prog X.w) X.A (pyIter (.ref s.heap.objs.size)) (PIE X pins σ tg R) E { s with heap := s.heap.push { cls := .type "range", data := .fields #[.int lo t, .int hi u, .int 1 v] }, toks := tk } := by
  refine wpAny_pyIter_range (IsRange.new ..) (small_one h1 h2 h3 h4) ?_
  have I1 : Inv X pins σ H { s with heap := s.heap.push { cls := .type "range", data := .fields #[.int lo t, .int hi u, .int 1 v] }, toks := tk } := I.kept fun b o e => Heap.get?_push_of_some _ e
  refine ⟨(s.heap.push { cls := .type "range", data := .fields #[.int lo t, .int hi u, .int 1 v] }).objs.size, [(s.heap.push { cls := .type "range", data := .fields #[.int lo t, .int hi u, .int 1 v] }).objs.size], _, _, H, rfl,
    I1.kept (t' := tk) fun b o e => Heap.get?_push_of_some _ e, turn_range _ lo (hi - lo).toNat, ?_, fun b hb => ?_, q⟩
  · have e1 : lo + ((0 : Nat) : Int) * 1 = lo := by simp
    have e2 : (((hi - lo).toNat : Nat) : Int) - ((0 : Nat) : Int) = Builtin.Range.rangeSize lo hi 1 := by rw [rangeSize_one]; split <;> omega
    show IsRangeIter _ _ (lo + ((0 : Nat) : Int) * 1) ((((hi - lo).toNat : Nat) : Int) - ((0 : Nat) : Int)) 1
    rw [e1, e2]
    exact Heap.get?_push_size _ rfl
  · have e : b = (s.heap.push { cls := .type "range", data := .fields #[.int lo t, .int hi u, .int 1 v] }).objs.size := by simpa using hb
    subst e
    exact I1.fpOk (Nat.le_refl _) (I1.hok.fresh (Nat.le_refl _))
def iRng1 (ta : TA) : TI := fun σ H R => ta σ H fun vs H1 => ∃ j : Int, vs = [.int j] ∧ -(2 ^ 62) ≤ j ∧ j < 2 ^ 62 ∧ R (Itr 0 j.toNat) H1
def iRng2 (ta : TA) : TI := fun σ H R => ta σ H fun vs H1 => ∃ i j : Int, vs = [.int i, .int j] ∧ (-(2 ^ 62) ≤ i ∧ i < 2 ^ 62 ∧ -(2 ^ 62) ≤ j ∧ j < 2 ^ 62) ∧ R (Itr i (j - i).toNat) H1
theorem pi_range1 {a : Expr} {ta : TA} {p pos : Pos} (hg : Gl X "range") (hm : X.mg "range" = none) (ha : PA X [a] ta) (hs : starEach [a] X.env = [(false, eval a X.env)] := by rfl) : PI X tg (.Call (.Name "range" p) [a] [] pos) (iRng1 ta) := by
  intro pins s σ H R I h
  refine Call_ (ld_blt I hg hm boot_range (PyProof.Rows.callWith_type1 (thn (ha pos pins s σ H _ I h) fun us s1 ⟨vs, H1, I1, r1, q1⟩ => ?_) hs rfl))
  obtain ⟨j, e, q1, q2, q⟩ := q1
  subst e
  cases r1 with
  | cons r rr =>
    cases rr
    obtain ⟨t, rfl⟩ := r
    exact call_range_1 (range_it I1 (by omega) (by omega) q1 q2 (by simpa using q))
theorem pi_range2 {a b : Expr} {ta : TA} {p pos : Pos} (hg : Gl X "range") (hm : X.mg "range" = none) (ha : PA X [a, b] ta) (hs : starEach [a, b] X.env = [(false, eval a X.env), (false, eval b X.env)] := by rfl) (hs2 : starEach [b] X.env = [(false, eval b X.env)] := by rfl) :
    PI X tg (.Call (.Name "range" p) [a, b] [] pos) (iRng2 ta) := by
  intro pins s σ H R I h
  refine Call_ (ld_blt I hg hm boot_range (PyProof.Rows.callWith_type1 (thn (ha pos pins s σ H _ I h) fun us s1 ⟨vs, H1, I1, r1, q1⟩ => ?_) (by rw [hs, hs2]) (by rw [hs2]; rfl)))
  obtain ⟨i, j, e, ⟨q1, q2, q3, q4⟩, q⟩ := q1
  subst e
  cases r1 with
  | cons r rr =>
    cases rr with
    | cons r' rr =>
      cases rr
      obtain ⟨t, rfl⟩ := r
      obtain ⟨t', rfl⟩ := r'
      exact call_range_2 (range_it I1 q1 q2 q3 q4 q)
def tFor (wi : TI) (g : TG) (tb : TS) : TS := fun D σ H => wi σ H fun J H1 => ∃ W : Nat → Nat → St → Hp → Prop, (∃ m, W 0 m σ H1) ∧ ∀ i m σ H, W i m σ H →
  (J.stop i H ∧ D.nx σ H) ∨ (J.go i H ∧ ∃ N : St → Hp → Prop, (∀ σ' H', N σ' H' → ∃ m', m' < m ∧ W (i + 1) m' σ' H') ∧ ∀ x H', J.yld i H x H' → g x σ H' fun σ2 H2 => tb { D with nx := N, ct := N, bk := D.nx } σ2 H2)
def pinsAt (fp : List Addr) (h : Heap) : List (Addr × Obj) := fp.filterMap fun b => (h.get? b).map fun o => (b, o)
theorem mem_pinsAt {fp : List Addr} {h : Heap} {b : Addr} {o : Obj} (hb : b ∈ fp) (e : h.get? b = some o) : (b, o) ∈ pinsAt fp h := List.mem_filterMap.mpr ⟨b, hb, by rw [e]; rfl⟩
theorem of_pinsAt {fp : List Addr} {h : Heap} {p : Addr × Obj} (hp : p ∈ pinsAt fp h) : p.1 ∈ fp ∧ h.get? p.1 = some p.2 := by
  obtain ⟨b, hb, e⟩ := List.mem_filterMap.mp hp
  cases q : h.get? b with
  | none => rw [q] at e; cases e
  | some o =>
    rw [q] at e
    have e' : (b, o) = p := Option.some.inj e
    subst e'
    exact ⟨hb, q⟩
theorem Inv.pinned {pins : List (Addr × Obj)} {σ : St} {H : Hp} {s : Shared} {fp : List Addr} (I : Inv X pins σ H s) (hf : ∀ b ∈ fp, FpOk X pins H b) (ho : ∀ b ∈ fp, ∃ o, s.heap.get? b = some o ∧ ∀ v, o.data ≠ .cell v) : Inv X (pins ++ pinsAt fp s.heap) σ H s :=
  I.pins_of fun p hp => (List.mem_append.mp hp).elim (fun z => I.pin p (List.mem_append_right _ z)) fun z => by
    obtain ⟨hb, e⟩ := of_pinsAt z
    obtain ⟨f0, f1, f2, _⟩ := hf p.1 hb
    obtain ⟨o, e', d⟩ := ho p.1 hb
    rw [e] at e'; cases e'
    exact ⟨e, f0, f1, f2, d⟩
theorem Inv.unpinned {pins pl : List (Addr × Obj)} {σ : St} {H : Hp} {s : Shared} (I : Inv X (pins ++ pl) σ H s) : Inv X pins σ H s := I.pins_of fun p hp => I.pin p (List.mem_append_right _ (List.mem_append_left _ hp))
theorem ps_for {iter : Expr} {body : List Stmt} {wi : TI} {g : TG} {tb : TS} {pos : Pos} (hp : PassesOwn (model X.prog X.w) X.A X.env X.xe) (hc : X.calm = true) (hi : PI X tg iter wi) (hg : PG X tg g) (hb : PSs X body tb)
    (hs : ∀ x, foldedSetIterable iter X.env x = pure x := by intro _; rfl) : PS X (.For tg iter body [] pos) (tFor wi g tb) := by
  intro pins s σ H D I h
  refine wpAny_For (thn (hi pins s σ H _ I h) fun v s1 h1 => thn h1 fun itv s2 h2 => ?_) hs
  obtain ⟨it, fp, tn, J, H2, e, I2, T, st2, f2, W, ⟨m0, w0⟩, turn⟩ := h2
  subst e
  have stat : ∀ {H' : Hp}, (∀ b ∈ fp, H' b = none) → ∀ b ∈ fp, FpOk X pins H' b := fun hn b hb => ⟨hn b hb, (f2 b hb).2⟩
  refine codeAny_forLoop_any (fun n s' => ∃ i σ' H', Inv X pins σ' H' s' ∧ tn i s'.heap ∧ (∀ b ∈ fp, H' b = none) ∧ W i n σ' H') ?_ m0 ⟨0, σ, H2, I2, st2, fun b hb => (f2 b hb).1, w0⟩
  rintro n s3 ⟨i, σ3, H3, I3, st3, fr3, w3⟩
  rcases turn i n σ3 H3 w3 with ⟨stop, qn⟩ | ⟨go, N, hN, step⟩
  · refine wpAny_passesOwn hp (thn (T.done X rfl rfl rfl hc i pins s3 σ3 H3 X.xe I3 (stat fr3) st3 stop) fun r s4 ⟨hr, I4⟩ => ?_)
    subst hr
    exact wpAny_execs_nil ⟨σ3, H3, I4, qn⟩
  · refine wpAny_passesOwn hp (thn (T.item X rfl rfl rfl hc i pins s3 σ3 H3 X.xe I3 (stat fr3) st3 go) fun r s4 ⟨u, hr, h4⟩ => ?_)
    subst hr
    refine wpAny_passesOwn hp (thn h4 fun _ s5 ⟨x, H5, I5, r5, y5, st5, fr5⟩ => ?_)
    have I5' := I5.pinned (stat fr5) (T.obj _ _ st5)
    refine wpAny_passesOwn hp (thn (hg _ s5 σ3 H5 x u _ I5' r5 (step x H5 y5)) fun _ s6 ⟨σ6, H6, I6, q6⟩ => ?_)
    refine wpAny_passesOwn hp (thn (hb _ s6 σ6 H6 _ I6 q6) fun f s7 q7 => ?_)
    have again : ∀ {σ7 : St} {H7 : Hp}, Inv X (pins ++ pinsAt fp s5.heap) σ7 H7 s7 → N σ7 H7 → ∃ m, m < n ∧ ∃ i σ' H', Inv X pins σ' H' s7 ∧ tn i s7.heap ∧ (∀ b ∈ fp, H' b = none) ∧ W i m σ' H' := fun {σ7 H7} I7 n7 => by
      obtain ⟨m', hm, w7⟩ := hN σ7 H7 n7
      refine ⟨m', hm, i + 1, σ7, H7, I7.unpinned, T.keep _ _ _ st5 fun b hb o e => (I7.pin (b, o) (List.mem_append_right _ (List.mem_append_right _ (mem_pinsAt hb e)))).1, fun b hb => ?_, w7⟩
      obtain ⟨o, e, d⟩ := T.obj _ _ st5 b hb
      exact (I7.pin (b, o) (List.mem_append_right _ (List.mem_append_right _ (mem_pinsAt hb e)))).2.1
    cases f with
    | next => obtain ⟨σ7, H7, I7, n7⟩ := q7; exact again I7 n7
    | cont => obtain ⟨σ7, H7, I7, n7⟩ := q7; exact again I7 n7
    | brk => obtain ⟨σ7, H7, I7, q7⟩ := q7; exact ⟨σ7, H7, I7.unpinned, q7⟩
    | ret v => obtain ⟨x7, σ7, H7, I7, r7, q7⟩ := q7; exact ⟨x7, σ7, H7, I7.unpinned, r7, q7⟩
end
theorem for_list {K : PySem.W.Frag} {a : Addr} {xs : List V} {g : TG} {tb : TS} {D : Ends} {σ : St} {H : Hp} (Pv : Nat → St → Hp → Prop) (h0 : Pv 0 σ H) (hl : ∀ i σ H, i ≤ xs.length → Pv i σ H → SqL K H a xs)
    (hs : ∀ i x σ H, xs[i]? = some x → Pv i σ H → g x σ H fun σ2 H2 => tb { D with nx := Pv (i + 1), ct := Pv (i + 1), bk := D.nx } σ2 H2) (hd : ∀ σ H, Pv xs.length σ H → D.nx σ H) :
    ∃ W : Nat → Nat → St → Hp → Prop, (∃ m, W 0 m σ H) ∧ ∀ i m σ H, W i m σ H →
      ((Itl K a).stop i H ∧ D.nx σ H) ∨ ((Itl K a).go i H ∧ ∃ N : St → Hp → Prop, (∀ σ' H', N σ' H' → ∃ m', m' < m ∧ W (i + 1) m' σ' H') ∧ ∀ x H', (Itl K a).yld i H x H' → g x σ H' fun σ2 H2 => tb { D with nx := N, ct := N, bk := D.nx } σ2 H2) := by
  refine ⟨fun i m σ H => m = xs.length - i ∧ i ≤ xs.length ∧ Pv i σ H, ⟨xs.length, by simp, Nat.zero_le _, h0⟩, ?_⟩
  rintro i m σ H ⟨rfl, hi, p⟩
  have q := hl i σ H hi p
  by_cases hlt : i < xs.length
  · refine .inr ⟨⟨xs, xs[i], q, by simp [hlt]⟩, Pv (i + 1), fun σ' H' p' => ⟨xs.length - (i + 1), by omega, rfl, hlt, p'⟩, fun x H' y => ?_⟩
    obtain ⟨e, y⟩ := y
    subst e
    exact hs i x σ _ (y xs q) p
  · have e : i = xs.length := by omega
    subst e
    exact .inl ⟨⟨xs, q, Nat.le_refl _⟩, hd σ H p⟩
theorem for_range {lo : Int} {n : Nat} {g : TG} {tb : TS} {D : Ends} {σ : St} {H : Hp} (Pv : Nat → St → Hp → Prop) (h0 : Pv 0 σ H)
    (hs : ∀ i σ H, i < n → Pv i σ H → g (.int (lo + i)) σ H fun σ2 H2 => tb { D with nx := Pv (i + 1), ct := Pv (i + 1), bk := D.nx } σ2 H2) (hd : ∀ σ H, Pv n σ H → D.nx σ H) :
    ∃ W : Nat → Nat → St → Hp → Prop, (∃ m, W 0 m σ H) ∧ ∀ i m σ H, W i m σ H →
      ((Itr lo n).stop i H ∧ D.nx σ H) ∨ ((Itr lo n).go i H ∧ ∃ N : St → Hp → Prop, (∀ σ' H', N σ' H' → ∃ m', m' < m ∧ W (i + 1) m' σ' H') ∧ ∀ x H', (Itr lo n).yld i H x H' → g x σ H' fun σ2 H2 => tb { D with nx := N, ct := N, bk := D.nx } σ2 H2) := by
  refine ⟨fun i m σ H => m = n - i ∧ i ≤ n ∧ Pv i σ H, ⟨n, by simp, Nat.zero_le _, h0⟩, ?_⟩
  rintro i m σ H ⟨rfl, hi, p⟩
  by_cases hlt : i < n
  · refine .inr ⟨hlt, Pv (i + 1), fun σ' H' p' => ⟨n - (i + 1), by omega, rfl, hlt, p'⟩, fun x H' y => ?_⟩
    obtain ⟨e, y⟩ := y
    subst e y
    exact hs i σ _ hlt p
  · have e : i = n := by omega
    subst e
    exact .inl ⟨Nat.le_refl _, hd σ H p⟩
end L2
namespace L2
open PySem PySem.Spec PyProof.Rows
abbrev R2 := V → V → Hp → VK → Prop
def OpR (X : Cx) (f : Value → Value → Sem Value) (r : R2) : Prop :=
  ∀ (pins : List (Addr × Obj)) (s : Shared) (σ : St) (H : Hp) (x y : V) (v u : Value) (Q : VK), Inv X pins σ H s → RelV x v → RelV y u → r x y H Q →
    wpAny (model X.prog X.w) X.A (f v u) (EP X pins σ Q) X.xe s
def UnR (X : Cx) (f : Value → Sem Value) (r : V → Hp → VK → Prop) : Prop :=
  ∀ (pins : List (Addr × Obj)) (s : Shared) (σ : St) (H : Hp) (x : V) (v : Value) (Q : VK), Inv X pins σ H s → RelV x v → r x H Q →
    wpAny (model X.prog X.w) X.A (f v) (EP X pins σ Q) X.xe s
def CallR (X : Cx) (f : Value) (r : List V → Hp → VK → Prop) : Prop :=
  ∀ (pins : List (Addr × Obj)) (s : Shared) (σ : St) (H : Hp) (xs : List V) (us : List Value) (Q : VK), Inv X pins σ H s → Vals xs us → r xs H Q →
    wpAny (model X.prog X.w) X.A (call f us) (EP X pins σ Q) X.xe s
def TruR (X : Cx) (r : V → Hp → (Bool → Hp → Prop) → Prop) : Prop :=
  ∀ (pins : List (Addr × Obj)) (s : Shared) (σ : St) (H : Hp) (x : V) (v : Value) (Q : Bool → Hp → Prop), Inv X pins σ H s → RelV x v → r x H Q →
    wpAny (model X.prog X.w) X.A (truthy v) (TP X pins σ Q) X.xe s
def tOp (r : R2) (ta tb : TE) : TE := fun σ H Q => ta σ H fun x H1 => tb σ H1 fun y H2 => r x y H2 Q
def tUn (r : V → Hp → VK → Prop) (ta : TE) : TE := fun σ H Q => ta σ H fun x H1 => r x H1 Q
inductive rI (C : Int → Int → Prop) (g : Int → Int → V) (x : V) (y : V) (H : Hp) (Q : VK) : Prop
  | mk (i j) (h1 : x = .int i) (h2 : y = .int j) (h3 : C i j) (h4 : Q (g i j) H) : rI C g x y H Q
inductive rI0 (g : Int → Int → V) (x : V) (y : V) (H : Hp) (Q : VK) : Prop
  | mk (i j) (h1 : x = .int i) (h2 : y = .int j) (h3 : Q (g i j) H) : rI0 g x y H Q
def rU (g : Int → V) : V → Hp → VK → Prop := fun x H Q => ∃ i, x = .int i ∧ Q (g i) H
section
variable {X : Cx} {a b c : Expr} {ta tb tc : TE} {pos : Pos}
theorem binT (ha : PE X a ta) (hb : PE X b tb) {pins : List (Addr × Obj)} {s : Shared} {σ : St} {H : Hp} {R : V → V → Hp → Prop} (I : Inv X pins σ H s)
    (h : ta σ H fun x H1 => tb σ H1 fun y H2 => R x y H2) {Q : Value → Shared → Prop} {f : Value → Value → Sem Value}
    (hf : ∀ v u s2 x y H2, Inv X pins σ H2 s2 → RelV x v → RelV y u → R x y H2 → wpAny (model X.prog X.w) X.A (f v u) Q X.xe s2) :
    wpAny (model X.prog X.w) X.A (eval a X.env) (fun v s₁ => wpAny (model X.prog X.w) X.A (eval b X.env) (fun u s₂ => wpAny (model X.prog X.w) X.A (f v u) Q X.xe s₂) X.xe s₁) X.xe s := by
  refine thn (ha pins s σ H _ I h) fun v s1 ⟨x, H1, I1, r1, q1⟩ => ?_
  refine thn (hb pins s1 σ H1 _ I1 q1) fun u s2 ⟨y, H2, I2, r2, q2⟩ => ?_
  exact hf v u s2 x y H2 I2 r1 r2 q2
theorem pe_op {op : Operator} {r : R2} (ho : OpR X (binaryOp op) r) (ha : PE X a ta) (hb : PE X b tb) : PE X (.BinOp a op b pos) (tOp r ta tb) := by
  intro pins s σ H Q I h
  exact wpAny_BinOp (binT ha hb I h fun v u s2 x y H2 I2 rx ry q => ho pins s2 σ H2 x y v u Q I2 rx ry q)
theorem pe_un {op : UnaryOp} {r : V → Hp → VK → Prop} (ho : UnR X (unaryOp op) r) (ha : PE X a ta) : PE X (.UnaryOp op a pos) (tUn r ta) := by
  intro pins s σ H Q I h
  exact UnaryOp_ (thn (ha pins s σ H _ I h) fun v s1 ⟨x, H1, I1, r1, q1⟩ => ho pins s1 σ H1 x v Q I1 r1 q1)
theorem opI {f : Value → Value → Sem Value} {C : Int → Int → Prop} {g : Int → Int → Int}
    (rule : ∀ (i j : Int) (t u : Tok) (s : Shared) (Q : Value → Shared → Prop) (E : Value → Shared → Prop), C i j → Q (.int (g i j) s.toks) { s with toks := s.toks + 1 } → wpAny (model X.prog X.w) X.A (f (.int i t) (.int j u)) Q E s) :
    OpR X f (rI C fun i j => .int (g i j)) := by
  intro pins s σ H x y v u Q I rx ry h
  obtain ⟨i, j, rfl, rfl, hc, q⟩ := h
  obtain ⟨t, rfl⟩ := rx
  obtain ⟨t', rfl⟩ := ry
  exact rule i j t t' s _ _ hc ⟨.int (g i j), H, I.tok _, ⟨_, rfl⟩, q⟩
theorem opI0 {f : Value → Value → Sem Value} {g : Int → Int → Int}
    (rule : ∀ (i j : Int) (t u : Tok) (s : Shared) (Q : Value → Shared → Prop) (E : Value → Shared → Prop), Q (.int (g i j) s.toks) { s with toks := s.toks + 1 } → wpAny (model X.prog X.w) X.A (f (.int i t) (.int j u)) Q E s) :
    OpR X f (rI0 fun i j => .int (g i j)) := by
  intro pins s σ H x y v u Q I rx ry h
  obtain ⟨i, j, rfl, rfl, q⟩ := h
  obtain ⟨t, rfl⟩ := rx
  obtain ⟨t', rfl⟩ := ry
  exact rule i j t t' s _ _ ⟨.int (g i j), H, I.tok _, ⟨_, rfl⟩, q⟩
theorem opB0 {f : Value → Value → Sem Value} {g : Int → Int → Bool}
    (rule : ∀ (i j : Int) (t u : Tok) (s : Shared) (Q : Value → Shared → Prop) (E : Value → Shared → Prop), Q (.bool (g i j)) s → wpAny (model X.prog X.w) X.A (f (.int i t) (.int j u)) Q E s) :
    OpR X f (rI0 fun i j => .bl (g i j)) := by
  intro pins s σ H x y v u Q I rx ry h
  obtain ⟨i, j, rfl, rfl, q⟩ := h
  obtain ⟨t, rfl⟩ := rx
  obtain ⟨t', rfl⟩ := ry
  exact rule i j t t' s _ _ ⟨.bl (g i j), H, I, rfl, q⟩
def CDiv (i j : Int) : Prop := 0 < j ∧ j < 1073741824
def CPow (i j : Int) : Prop := 0 ≤ j ∧ j ≤ 1000000 ∧ i.natAbs < 2 ^ 64
def CMul (i j : Int) : Prop := (-(2 ^ 64) < i ∧ i < 2 ^ 64) ∨ (-(2 ^ 64) < j ∧ j < 2 ^ 64)
theorem CMul.ok {i j : Int} (h : CMul i j) : IntMulOk i j := by
  rcases h with ⟨h1, h2⟩ | ⟨h1, h2⟩
  · exact .of_left (intBits_le_64 h1 h2)
  · exact .of_right (intBits_le_64 h1 h2)
theorem op_add : OpR X (binaryOp .Add) (rI0 fun i j => .int (i + j)) := opI0 fun _ _ _ _ _ _ _ q => add_int q
theorem op_sub : OpR X (binaryOp .Sub) (rI0 fun i j => .int (i - j)) := opI0 fun _ _ _ _ _ _ _ q => sub_int q
theorem op_mul : OpR X (binaryOp .Mult) (rI CMul fun i j => .int (i * j)) := opI fun _ _ _ _ _ _ _ hc q => mul_int q hc.ok
theorem op_fdiv : OpR X (binaryOp .FloorDiv) (rI CDiv fun i j => .int (i / j)) := opI fun i j _ _ _ _ _ hc q => by
  have h1 : (0 : Int) < j := hc.1
  have h2 : j < 1073741824 := hc.2
  exact floordiv_int (by omega) (by rw [Int.fdiv_eq_ediv_of_nonneg i (by omega)]; exact q) (.inl (PyProof.noPylong_small (by omega)))
theorem op_mod : OpR X (binaryOp .Mod) (rI (fun _ j => 0 < j) fun i j => .int (i % j)) := opI fun i j _ _ _ _ _ hc q => by
  have h1 : (0 : Int) < j := hc
  exact mod_int' (by omega) (by rw [Int.fmod_eq_emod_of_nonneg i (by omega)]; exact q)
theorem op_pow : OpR X (binaryOp .Pow) (rI CPow fun i j => .int (i ^ j.toNat)) := opI fun _ _ _ _ _ _ _ hc q => pow_int_small hc.1 hc.2.1 hc.2.2 q
theorem op_shl : OpR X (binaryOp .LShift) (rI CPow fun i j => .int (i * 2 ^ j.toNat)) := opI fun _ _ _ _ _ _ _ hc q => lshift_int_small hc.1 hc.2.1 hc.2.2 q
theorem op_and : OpR X (binaryOp .BitAnd) (rI0 fun i j => .int (Builtin.bitAnd i j)) := opI0 fun _ _ _ _ _ _ _ q => and_int q
theorem unI {f : Value → Sem Value} {g : Int → Int}
    (rule : ∀ (i : Int) (t : Tok) (s : Shared) (Q : Value → Shared → Prop) (E : Value → Shared → Prop), Q (.int (g i) s.toks) { s with toks := s.toks + 1 } → wpAny (model X.prog X.w) X.A (f (.int i t)) Q E s) :
    UnR X f (rU fun i => .int (g i)) := by
  intro pins s σ H x v Q I rx h
  obtain ⟨i, rfl, q⟩ := h
  obtain ⟨t, rfl⟩ := rx
  exact rule i t s _ _ ⟨.int (g i), H, I.tok _, ⟨_, rfl⟩, q⟩
theorem un_neg : UnR X (unaryOp .USub) (rU fun i => .int (-i)) := unI fun _ _ _ _ _ q => neg_int q
end
def scal : V → V → Bool
  | .non, .non => true | .non, .int _ => true | .int _, .non => true | .non, .bl _ => true | .bl _, .non => true | .non, .str _ => true | .str _, .non => true
  | .int _, .int _ => true | .bl _, .bl _ => true | .str _, .str _ => true | .byt _, .byt _ => true
  | .int _, .str _ => true | .str _, .int _ => true | .bl _, .str _ => true | .str _, .bl _ => true
  | _, _ => false
def rEq : R2 := fun x y H Q => scal x y = true ∧ Q (.bl (decide (x = y))) H
def rNe : R2 := fun x y H Q => scal x y = true ∧ Q (.bl (!decide (x = y))) H
theorem dec_int {i j : Int} : decide (V.int i = V.int j) = (i == j) := by
  rw [Bool.eq_iff_iff]
  simp
theorem dec_bl {i j : Bool} : decide (V.bl i = V.bl j) = (i == j) := by
  rw [Bool.eq_iff_iff]
  simp
theorem dec_str {i j : Str} : decide (V.str i = V.str j) = (i == j) := by
  rw [Bool.eq_iff_iff]
  simp
theorem dec_byt {i j : Array UInt8} : decide (V.byt i = V.byt j) = (i.toList == j.toList) := by
  rw [Bool.eq_iff_iff]
  cases i
  cases j
  simp
section
variable {X : Cx} {a b c : Expr} {ta tb tc : TE} {pos : Pos}
theorem fin_bl {pins : List (Addr × Obj)} {σ : St} {H : Hp} {s : Shared} {Q : VK} {k k' : Bool} (I : Inv X pins σ H s) (q : Q (.bl k) H) (e : k = k') : EP X pins σ Q (.bool k') s := by
  subst e
  exact ⟨.bl k, H, I, rfl, q⟩
theorem op_eq : OpR X (compareOp .Eq) rEq := by
  intro pins s σ H x y v u Q I rx ry h
  obtain ⟨hs, q⟩ := h
  cases x with
  | non =>
    cases rx
    cases y with
    | non => cases ry; exact PySem.EqNone.eq_none_none (fin_bl I q (by simp))
    | bl j => cases ry; exact PySem.EqNone.eq_none_bool (fin_bl I q (by simp))
    | int j => obtain ⟨t', rfl⟩ := ry; exact PySem.EqNone.eq_none_int (fin_bl I q (by simp))
    | str j => obtain ⟨t', rfl⟩ := ry; exact PySem.EqNone.eq_none_str (fin_bl I q (by simp))
    | _ => exact absurd (show false = true from hs) Bool.false_ne_true
  | bl i =>
    cases rx
    cases y with
    | non => cases ry; exact PySem.EqNone.eq_bool_none (fin_bl I q (by simp))
    | bl j => cases ry; exact eq_bool (fin_bl I q dec_bl)
    | str j => obtain ⟨t', rfl⟩ := ry; exact PySem.EqMixed.eq_bool_str (fin_bl I q (by simp))
    | _ => exact absurd (show false = true from hs) Bool.false_ne_true
  | int i =>
    obtain ⟨t, rfl⟩ := rx
    cases y with
    | non => cases ry; exact PySem.EqNone.eq_int_none (fin_bl I q (by simp))
    | int j => obtain ⟨t', rfl⟩ := ry; exact eq_int (fin_bl I q dec_int)
    | str j => obtain ⟨t', rfl⟩ := ry; exact PySem.EqMixed.eq_int_str (fin_bl I q (by simp))
    | _ => exact absurd (show false = true from hs) Bool.false_ne_true
  | str i =>
    obtain ⟨t, rfl⟩ := rx
    cases y with
    | non => cases ry; exact PySem.EqNone.eq_str_none (fin_bl I q (by simp))
    | bl j => cases ry; exact PySem.EqMixed.eq_str_bool (fin_bl I q (by simp))
    | int j => obtain ⟨t', rfl⟩ := ry; exact PySem.EqMixed.eq_str_int (fin_bl I q (by simp))
    | str j => obtain ⟨t', rfl⟩ := ry; exact eq_str (fin_bl I q dec_str)
    | _ => exact absurd (show false = true from hs) Bool.false_ne_true
  | byt i =>
    obtain ⟨t, rfl⟩ := rx
    cases y with
    | byt j => obtain ⟨t', rfl⟩ := ry; exact PySem.W.eq_bytes (fin_bl I q dec_byt)
    | _ => exact absurd (show false = true from hs) Bool.false_ne_true
  | _ => cases y <;> exact absurd (show false = true from hs) Bool.false_ne_true
theorem op_ne : OpR X (compareOp .NotEq) rNe := by
  intro pins s σ H x y v u Q I rx ry h
  obtain ⟨hs, q⟩ := h
  cases x with
  | non =>
    cases rx
    cases y with
    | non => cases ry; exact PySem.EqNone.ne_none_none (fin_bl I q (by simp))
    | bl j => cases ry; exact PySem.EqNone.ne_none_bool (fin_bl I q (by simp))
    | int j => obtain ⟨t', rfl⟩ := ry; exact PySem.EqNone.ne_none_int (fin_bl I q (by simp))
    | str j => obtain ⟨t', rfl⟩ := ry; exact PySem.EqNone.ne_none_str (fin_bl I q (by simp))
    | _ => exact absurd (show false = true from hs) Bool.false_ne_true
  | bl i =>
    cases rx
    cases y with
    | non => cases ry; exact PySem.EqNone.ne_bool_none (fin_bl I q (by simp))
    | bl j => cases ry; exact ne_bool (fin_bl I q (congrArg not dec_bl))
    | str j => obtain ⟨t', rfl⟩ := ry; exact PySem.EqMixed.ne_bool_str (fin_bl I q (by simp))
    | _ => exact absurd (show false = true from hs) Bool.false_ne_true
  | int i =>
    obtain ⟨t, rfl⟩ := rx
    cases y with
    | non => cases ry; exact PySem.EqNone.ne_int_none (fin_bl I q (by simp))
    | int j => obtain ⟨t', rfl⟩ := ry; exact ne_int (fin_bl I q (congrArg not dec_int))
    | str j => obtain ⟨t', rfl⟩ := ry; exact PySem.EqMixed.ne_int_str (fin_bl I q (by simp))
    | _ => exact absurd (show false = true from hs) Bool.false_ne_true
  | str i =>
    obtain ⟨t, rfl⟩ := rx
    cases y with
    | non => cases ry; exact PySem.EqNone.ne_str_none (fin_bl I q (by simp))
    | bl j => cases ry; exact PySem.EqMixed.ne_str_bool (fin_bl I q (by simp))
    | int j => obtain ⟨t', rfl⟩ := ry; exact PySem.EqMixed.ne_str_int (fin_bl I q (by simp))
    | str j => obtain ⟨t', rfl⟩ := ry; exact ne_str (fin_bl I q (congrArg not dec_str))
    | _ => exact absurd (show false = true from hs) Bool.false_ne_true
  | byt i =>
    obtain ⟨t, rfl⟩ := rx
    cases y with
    | byt j => obtain ⟨t', rfl⟩ := ry; exact PySem.W.ne_bytes (fin_bl I q (congrArg not dec_byt))
    | _ => exact absurd (show false = true from hs) Bool.false_ne_true
  | _ => cases y <;> exact absurd (show false = true from hs) Bool.false_ne_true
theorem op_lt : OpR X (compareOp .Lt) (rI0 fun i j => .bl (decide (i < j))) := opB0 fun _ _ _ _ _ _ _ q => lt_int q
theorem op_le : OpR X (compareOp .LtE) (rI0 fun i j => .bl (decide (i ≤ j))) := opB0 fun _ _ _ _ _ _ _ q => le_int q
theorem op_gt : OpR X (compareOp .Gt) (rI0 fun i j => .bl (decide (j < i))) := opB0 fun _ _ _ _ _ _ _ q => gt_int q
theorem op_ge : OpR X (compareOp .GtE) (rI0 fun i j => .bl (decide (j ≤ i))) := opB0 fun _ _ _ _ _ _ _ q => ge_int q
theorem op_in_str : OpR X (compareOp .In) (fun x y H Q => ∃ i j, x = .str i ∧ y = .str j ∧ Q (.bl (!(Builtin.Str.occurrences j i 0 j.length 1).isEmpty)) H) := by
  intro pins s σ H x y v u Q I rx ry h
  obtain ⟨i, j, rfl, rfl, q⟩ := h
  obtain ⟨t, rfl⟩ := rx
  obtain ⟨t', rfl⟩ := ry
  exact in_str (fin_bl I q rfl)
theorem nomark (b : Expr) {op : CmpOp} (h : op ≠ .In := by decide) (h2 : op ≠ .NotIn := by decide) : behindInMarks op b = false := by
  have e1 : (op == CmpOp.In) = false := by cases op <;> first | rfl | exact absurd rfl h
  have e2 : (op == CmpOp.NotIn) = false := by cases op <;> first | rfl | exact absurd rfl h2
  cases b <;> simp [behindInMarks, e1, e2]
theorem pe_cmpR {op : CmpOp} {r : R2} (ho : OpR X (compareOp op) r) (ha : PE X a ta) (hb : PE X b tb) (hm : behindInMarks op b = false) : PE X (.Compare a [op] [b] pos) (tOp r ta tb) := by
  intro pins s σ H Q I h
  exact wpAny_Compare1 (binT ha hb I h fun v u s2 x y H2 I2 rx ry q => ho pins s2 σ H2 x y v u Q I2 rx ry q) hm
inductive ttR (x : V) (H' : Hp) (Q : Bool → Hp → Prop) : Prop
  | mk (k) (h1 : x = .bl k) (h2 : Q k H') : ttR x H' Q
def tTest (t : TE) : TT := fun σ H Q => t σ H fun x H' => ttR x H' Q
theorem pt_cmpR {op : CmpOp} {r : R2} (ho : OpR X (compareOp op) r) (ha : PE X a ta) (hb : PE X b tb) (hm : behindInMarks op b = false) : PT X (.Compare a [op] [b] pos) (tTest (tOp r ta tb)) := by
  intro pins s σ H Q I h
  refine wpAny_isTrue_Compare1 (thn (ha pins s σ H _ I h) fun v s1 ⟨x, H1, I1, r1, q1⟩ => thn (hb pins s1 σ H1 _ I1 q1) fun u s2 ⟨y, H2, I2, r2, q2⟩ =>
    thn (ho pins s2 σ H2 x y v u _ I2 r1 r2 q2) fun c s3 ⟨z, H3, I3, r3, k, e, q3⟩ => ?_) hm
  subst e
  cases r3
  exact wpAny_truthy_bool ⟨H3, I3, q3⟩
def tChain (r r' : R2) (ta tb tc : TE) : TE := fun σ H Q => ta σ H fun x H1 => tb σ H1 fun y H2 => r x y H2 fun z H3 => ∃ k, z = .bl k ∧
  (if k = true then tc σ H3 fun w' H4 => r' y w' H4 Q else Q (.bl false) H3)
theorem pe_chain {op op' : CmpOp} {r r' : R2} (ho : OpR X (compareOp op) r) (ho' : OpR X (compareOp op') r') (ha : PE X a ta) (hb : PE X b tb) (hc : PE X c tc)
    (hm : lastMarks [op, op'] [b, c] = false := by with_unfolding_all rfl) : PE X (.Compare a [op, op'] [b, c] pos) (tChain r r' ta tb tc) := by
  intro pins s σ H Q I h
  refine Compare_chain (thn (ha pins s σ H _ I h) fun v s1 ⟨x, H1, I1, r1, q1⟩ => chain_link (thn (hb pins s1 σ H1 _ I1 q1) fun u s2 ⟨y, H2, I2, r2, q2⟩ =>
    thn (ho pins s2 σ H2 x y v u _ I2 r1 r2 q2) fun d s3 ⟨z, H3, I3, r3, k, e, q3⟩ => ?_)) hm
  subst e
  cases r3
  refine wpAny_truthy_bool ?_
  cases k with
  | false => exact ite_ff ⟨.bl false, H3, I3, rfl, q3⟩
  | true => exact ite_tt (chain_last (thn (hc pins s3 σ H3 _ I3 q3) fun w' s4 ⟨z', H4, I4, r4, q4⟩ => ho' pins s4 σ H4 y z' u w' Q I4 r2 r4 q4))
theorem pt_chain {op op' : CmpOp} {r r' : R2} (ho : OpR X (compareOp op) r) (ho' : OpR X (compareOp op') r') (ha : PE X a ta) (hb : PE X b tb) (hc : PE X c tc)
    (hm : lastMarks [op, op'] [b, c] = false := by with_unfolding_all rfl) : PT X (.Compare a [op, op'] [b, c] pos) (tTest (tChain r r' ta tb tc)) := by
  intro pins s σ H Q I h
  refine isTrue_chain (thn (ha pins s σ H _ I h) fun v s1 ⟨x, H1, I1, r1, q1⟩ => test_link (thn (hb pins s1 σ H1 _ I1 q1) fun u s2 ⟨y, H2, I2, r2, q2⟩ =>
    thn (ho pins s2 σ H2 x y v u _ I2 r1 r2 q2) fun d s3 ⟨z, H3, I3, r3, k, e, q3⟩ => ?_)) hm
  subst e
  cases r3
  refine wpAny_truthy_bool ?_
  cases k with
  | false =>
    obtain ⟨k', e', q'⟩ := q3
    cases e'
    exact ite_ff ⟨H3, I3, q'⟩
  | true =>
    refine ite_tt (test_last (thn (hc pins s3 σ H3 _ I3 q3) fun w' s4 ⟨z', H4, I4, r4, q4⟩ => thn (ho' pins s4 σ H4 y z' u w' _ I4 r2 r4 q4) fun d' s5 ⟨z2, H5, I5, r5, k2, e2, q5⟩ => ?_))
    subst e2
    cases r5
    exact wpAny_truthy_bool ⟨H5, I5, q5⟩
def TruV (K : PySem.W.Frag) (x : V) (H : Hp) (k : Bool) : Prop :=
  match x with
  | .non => k = false
  | .bl b => k = b
  | .int i => k = (i != 0)
  | .str y => y.length ≤ sizeLine ∧ k = ((y.length : Int) != 0)
  | .byt y => y.size ≤ sizeLine ∧ k = ((y.size : Int) != 0)
  | .ref p => (∃ xs, SqL K H p xs ∧ k = !xs.isEmpty) ∨ (∃ xs, SqT K H p xs ∧ k = !xs.isEmpty) ∨ ∃ kvs, H p = some (.dK kvs) ∧ k = !kvs.isEmpty
  | _ => False
theorem isEmpty_kv {κ : Type} {kvs : List (κ × V)} {vs : List (κ × Value)} (r : KV kvs vs) : (!vs.isEmpty) = !kvs.isEmpty := by
  cases r <;> rfl
theorem isEmpty_of {xs : List V} {its : List Value} (r : Vals xs its) : (!its.toArray.isEmpty) = !xs.isEmpty := by
  cases r <;> simp
theorem line63 : (sizeLine : Nat) < 2 ^ 63 := by rw [sizeLine_eq]; decide
theorem tru_ok : TruR X (fun x H Q => ∃ k, TruV X.K x H k ∧ Q k H) := by
  intro pins s σ H x v Q I rx h
  obtain ⟨k, e, q⟩ := h
  have hl := line63
  have hs : sizeLine = 16777216 := sizeLine_eq
  cases x with
  | non =>
    cases rx
    have e' : k = false := e
    subst e'
    exact truthy_none ⟨H, I, q⟩
  | bl b =>
    cases rx
    have e' : k = b := e
    subst e'
    exact wpAny_truthy_bool ⟨H, I, q⟩
  | int i =>
    obtain ⟨t, rfl⟩ := rx
    have e' : k = (i != 0) := e
    subst e'
    exact PySem.P.truthy_int ⟨H, I, q⟩
  | str y =>
    obtain ⟨t, rfl⟩ := rx
    obtain ⟨hy, e'⟩ : y.length ≤ sizeLine ∧ k = ((y.length : Int) != 0) := e
    subst e'
    exact PySem.P.truthy_str (by omega) ⟨H, I.tok _, q⟩
  | byt y =>
    obtain ⟨t, rfl⟩ := rx
    obtain ⟨hy, e'⟩ : y.size ≤ sizeLine ∧ k = ((y.size : Int) != 0) := e
    subst e'
    exact PySem.W.truthy_bytes (by omega) ⟨H, I.tok _, q⟩
  | ref p =>
    cases rx
    have e' : (∃ xs, SqL X.K H p xs ∧ k = !xs.isEmpty) ∨ (∃ xs, SqT X.K H p xs ∧ k = !xs.isEmpty) ∨ ∃ kvs, H p = some (.dK kvs) ∧ k = !kvs.isEmpty := e
    rcases e' with ⟨xs, hx, e'⟩ | ⟨xs, hx, e'⟩ | ⟨kvs, hx, e'⟩
    · subst e'
      obtain ⟨its, r, pl, hz⟩ := I.list hx
      have hlen := r.length
      exact wpAny_truthy_list pl.isList (by simp only [List.size_toArray]; omega) ⟨H, I.tok _, by rw [isEmpty_of r]; exact q⟩
    · subst e'
      obtain ⟨its, r, pl, hz⟩ := I.tuple hx
      have hlen := r.length
      exact truthy_tuple pl (by simp only [List.size_toArray]; omega) ⟨H, I.tok _, by rw [isEmpty_of r]; exact q⟩
    · subst e'
      obtain ⟨hz, hS, vs, r, m⟩ : kvs.length ≤ sizeLine ∧ (p == sysModules) = false ∧ ∃ vs, KV kvs vs ∧ s.heap.DictOf (mixKind X.prog X.w) p vs := I.hok p _ hx
      have hlen : kvs.length = vs.length := Paired.length r
      exact wpAny_truthy_dict hS m (by omega) ⟨H, I.tok _, by rw [isEmpty_kv r]; exact q⟩
  | _ => exact (show False from e).elim
theorem pt_truth (ha : PE X a ta) (he : ∀ whole, isTrue a X.env whole = (do let v ← whole; standAt a.pos; holding [v] (truthy v))) :
    PT X a (fun σ H Q => ta σ H fun x H' => ∃ k, TruV X.K x H' k ∧ Q k H') := by
  intro pins s σ H Q I h
  exact isTrue_plain (thn (ha pins s σ H _ I h) fun v s1 ⟨x, H1, I1, r1, q1⟩ => tru_ok pins s1 σ H1 x v Q I1 r1 q1) (he _)
theorem vals1 {x : V} {us : List Value} (r : Vals [x] us) : ∃ u, us = [u] ∧ RelV x u := by
  cases r with
  | cons r1 r2 => cases r2; exact ⟨_, rfl, r1⟩
theorem vals2 {x y : V} {us : List Value} (r : Vals [x, y] us) : ∃ u w', us = [u, w'] ∧ RelV x u ∧ RelV y w' := by
  cases r with
  | cons r1 r2 =>
    cases r2 with
    | cons r3 r4 => cases r4; exact ⟨_, _, rfl, r1, r3⟩
theorem call_abs : CallR X (.builtin "abs") (fun xs H Q => ∃ i, xs = [.int i] ∧ Q (.int (if i < 0 then -i else i)) H) := by
  intro pins s σ H xs us Q I r h
  obtain ⟨i, rfl, q⟩ := h
  obtain ⟨u, rfl, t, rfl⟩ := vals1 r
  exact call_abs_int fun u tk => ⟨.int (if i < 0 then -i else i), H, I.tok _, ⟨_, rfl⟩, q⟩
theorem call_max2 (hc : X.calm = true) : CallR X (.builtin "max") (fun xs H Q => ∃ i j, xs = [.int i, .int j] ∧ Q (.int (if j > i then j else i)) H) := by
  intro pins s σ H xs us Q I r h
  obtain ⟨i, j, rfl, q⟩ := h
  obtain ⟨u, w', rfl, ⟨t, rfl⟩, ⟨t', rfl⟩⟩ := vals2 r
  refine max_two_ints (I.ok.hd hc) fun h' tk k => ⟨_, H, I.kept k, ?_, q⟩
  by_cases hj : j > i
  · rw [if_pos hj, if_pos hj]; exact ⟨_, rfl⟩
  · rw [if_neg hj, if_neg hj]; exact ⟨_, rfl⟩
theorem call_min2 (hc : X.calm = true) : CallR X (.builtin "min") (fun xs H Q => ∃ i j, xs = [.int i, .int j] ∧ Q (.int (if j < i then j else i)) H) := by
  intro pins s σ H xs us Q I r h
  obtain ⟨i, j, rfl, q⟩ := h
  obtain ⟨u, w', rfl, ⟨t, rfl⟩, ⟨t', rfl⟩⟩ := vals2 r
  refine min_two_ints (I.ok.hd hc) fun h' tk k => ⟨_, H, I.kept k, ?_, q⟩
  by_cases hj : j < i
  · rw [if_pos hj, if_pos hj]; exact ⟨_, rfl⟩
  · rw [if_neg hj, if_neg hj]; exact ⟨_, rfl⟩
end
end L2
namespace L2
open PySem PySem.Spec PyProof.Rows
structure ObjM (h : Heap) (x dx C : Addr) (mA : Str → Option Value) : Prop where
  obj : h.get? x = some (PySem.W.instObj C dx)
  ns : h.Ns1 dx mA
  ne : dx ≠ x
theorem lookIn_ns {h : Heap} {dx : Addr} {mA : Str → Option Value} (n : h.Ns1 dx mA) : ∃ od, h.get? dx = some od ∧ ∀ name, PySem.W.lookIn name od = some (mA name) := by
  obtain ⟨o, es, ep, ho, hd, hk, _, hm⟩ := n
  refine ⟨o, ho, fun name => ?_⟩
  have e := hm name
  unfold nsFind findBy at e
  rw [← Array.find?_toList] at e
  unfold PySem.W.lookIn
  rw [hd]
  dsimp only
  split
  · rename_i y q
    rw [q] at e
    exact congrArg some e
  · rename_i q
    rw [q] at e
    have a : es.toList.any (·.refKey) = false := by
      rw [List.any_eq_false]
      intro y hy
      obtain ⟨z, t, hkey⟩ := hk y (Array.mem_toList_iff.mp hy)
      simp [DictEntry.refKey, hkey]
    have a' : ¬ es.toList.any (·.refKey) = true := by rw [a]; exact Bool.false_ne_true
    rw [if_neg a']
    exact congrArg some e
theorem ObjM.look {h : Heap} {x dx C : Addr} {mA : Str → Option Value} (I : ObjM h x dx C mA) : ∃ od, PySem.W.InstAt h x (PySem.W.instObj C dx) C (some od) ∧ ∀ name, PySem.W.lookIn name od = some (mA name) :=
  let ⟨od, ho, hl⟩ := lookIn_ns I.ns
  ⟨od, ⟨I.obj, rfl, rfl, ho⟩, hl⟩
section
variable {prog : Program} {w : World} {A : Around} {E : Value → Shared → Prop} {s : Shared} {K : PySem.W.Frag} {x dx C f : Addr} {mA : Str → Option Value} {name : Str} {v : Value}
theorem get_map {expr : Bool} {Q : Value → Shared → Prop} (X : K.In s.heap) (I : ObjM s.heap x dx C mA) (hg : PySem.W.plainGet K C name = true) (hh : PySem.W.hasDictIn K C = true)
    (ha : PySem.W.findIn K (.ref C) name = some none) (hv : mA name = some v) (hv' : PySem.W.handedIn v = true) (h : Q v { s with toks := s.toks + 1 }) :
    wpAny (model prog w) A (getAttr (.ref x) name expr) Q E s := by
  obtain ⟨od, J, hl⟩ := I.look
  exact PySem.W.get_value X J (PySem.W.plainGet_of hg).1 (PySem.W.findObj_own hh ha rfl (by rw [hl, hv])) hv' h
theorem get_meth {pl : Sem Bool} {Q : Value × List Value → Shared → Prop} (X : K.In s.heap) (I : ObjM s.heap x dx C mA) (hg : PySem.W.plainGet K C name = true)
    (hf : PySem.W.findIn K (.ref C) name = some (some (.ref f))) (ht : PySem.W.isFn K (.ref f) = true) (hv : mA name = none) (h : Q (.ref f, [.ref x]) s) :
    wpAny (model prog w) A (getMethod (.ref x) name pl) Q E s := by
  obtain ⟨od, J, hl⟩ := I.look
  exact PySem.W.method_fn X J (PySem.W.plainGet_of hg).1 (PySem.W.plainGet_of hg).2 hf (beq_iff_eq.mp ht) (by show (PySem.W.lookIn name od).map (·.isSome) = some false; rw [hl, hv]; rfl) h
theorem set_map {ns : List Str} {Q : Unit → Shared → Prop} (X : K.In s.heap) (I : ObjM s.heap x dx C mA)
    (hs : PySem.W.findIn K (.ref C) "__setattr__" = some (some (.builtin "object.__setattr__"))) (hp : PySem.W.plainOver K C = true) (ht : PySem.W.takerIn K C name = some none) (hh : PySem.W.hasDictIn K C = true)
    (hw : PySem.Within mA ns) (hsz : ns.length ≤ sizeLine)
    (h : ∀ h', ObjM h' x dx C (fun y => if y = name then some v else mA y) → Heap.SameBut dx s.heap h' → Q () { s with heap := h', toks := s.toks + 2 }) :
    wpAny (model prog w) A (setAttr (.ref x) name v) Q E s := by
  obtain ⟨od, J, hl⟩ := I.look
  refine PySem.W.set_plain X J hs (PySem.W.osa_open (s := { s with toks := s.toks + 1 }) (r := none) X J hp ht fun b => ?_)
  obtain ⟨cd, hc, hd'⟩ := PySem.W.any_some hh
  have hx : s.heap.get? x = some ⟨.ref C, some dx, .plain, #[]⟩ := I.obj
  refine wpAny_bind (wpAny_pure (wpAny_bind (wpAny_bind (wpAny_loadPart hx (wpAny_bind (PySem.W.Looks.here (s := { s with toks := s.toks + 1 }) (PySem.W.looks_clsIn X hc) ?_))))))
  rw [hd']
  refine wpAny_pure (a := some dx) (wpAny_bind (wpAny_pure (wpAny_bind ?_)))
  refine wpAny_nsSet1 (s := { s with toks := s.toks + 1 }) I.ns fun h' hn2 hs2 => ?_
  obtain ⟨oD, esD, epD, hoD, hdD, hcD⟩ := hn2.count (PySem.Within.cons name v hw)
  refine wpAny_bind (wpAny_lookBehind hoD (by rw [hdD]; exact pastItsLine_dict (Nat.le_trans hcD (by rw [List.length_cons]; omega))) ?_)
  exact wpAny_pure (h _ ⟨(hs2.2 _ (Ne.symm I.ne)).trans I.obj, hn2, I.ne⟩ hs2)
theorem make_map {R : Result → Shared → Prop} {vs : List Value} {kw : List (Str × Value)} (X : K.In s.heap) (hm : PySem.W.makesIn K C = true)
    (hi : PySem.W.findIn K (.ref C) "__init__" = some (some (.ref f))) (hf : PySem.W.typeIn K (.ref f) = some (.type "function"))
    (h : codeAny (model prog w) (A.under (.builtin "type.__call__" ⟨.ref C :: vs, kw⟩)) (.call (.ref f) ⟨.ref (s.heap.objs.size + 1) :: vs, kw⟩) (PySem.W.InitBack (s.heap.objs.size + 1) R)
      { s with heap := (s.heap.push PySem.W.emptyDict).push (PySem.W.instObj C s.heap.objs.size) }) :
    codeAny (model prog w) A (.call (.ref C) ⟨vs, kw⟩) R s := by
  obtain ⟨hh, g, d, t, os⟩ := s
  exact PySem.W.make_core (PySem.W.makes_of X hm) (PySem.W.looks_findIn X hi) (fun self => PySem.W.bind_fn X self hf) (.inl rfl) h
end
def putF (f : Str) (v : V) : List (Str × V) → List (Str × V)
  | [] => [(f, v)]
  | (g, x) :: r => if g = f then (g, v) :: r else (g, x) :: putF f v r
theorem lookup_putF (f g : Str) (v : V) : ∀ fs : List (Str × V), (putF f v fs).lookup g = if g = f then some v else fs.lookup g
  | [] => by
    show List.lookup g [(f, v)] = _
    by_cases h : g = f
    · have hb : (g == f) = true := beq_iff_eq.mpr h
      simp only [List.lookup, hb, if_pos h]
    · have hb : (g == f) = false := beq_eq_false_iff_ne.mpr h
      simp only [List.lookup, hb, if_neg h]
  | (k, x) :: r => by
    have ih := lookup_putF f g v r
    rw [show putF f v ((k, x) :: r) = (if k = f then (k, v) :: r else (k, x) :: putF f v r) from rfl]
    by_cases hk : k = f
    · rw [if_pos hk]
      by_cases h : g = k
      · have hb : (g == k) = true := beq_iff_eq.mpr h
        simp only [List.lookup, hb, if_pos (h.trans hk)]
      · have hb : (g == k) = false := beq_eq_false_iff_ne.mpr h
        simp only [List.lookup, hb, if_neg (fun e : g = f => h (e.trans hk.symm))]
    · rw [if_neg hk]
      by_cases h : g = k
      · have hb : (g == k) = true := beq_iff_eq.mpr h
        simp only [List.lookup, hb, if_neg (fun e : g = f => hk (h.symm.trans e))]
      · have hb : (g == k) = false := beq_eq_false_iff_ne.mpr h
        simp only [List.lookup, hb]
        exact ih
theorem keys_putF (f : Str) (v : V) : ∀ fs : List (Str × V), f ∈ (putF f v fs).map (·.1) ∧ ∀ g, g ∈ fs.map (·.1) → g ∈ (putF f v fs).map (·.1)
  | [] => ⟨by simp [putF], fun g h => by simp at h⟩
  | (k, x) :: r => by
    obtain ⟨i1, i2⟩ := keys_putF f v r
    rw [show putF f v ((k, x) :: r) = (if k = f then (k, v) :: r else (k, x) :: putF f v r) from rfl]
    by_cases hk : k = f
    · rw [if_pos hk]
      subst hk
      exact ⟨by simp, fun g h => by simpa using h⟩
    · rw [if_neg hk]
      refine ⟨?_, fun g h => ?_⟩
      · rw [List.map_cons]
        exact List.mem_cons_of_mem _ i1
      · rw [List.map_cons] at h ⊢
        rcases List.mem_cons.mp h with e | e
        · exact List.mem_cons.mpr (.inl e)
        · exact List.mem_cons_of_mem _ (i2 g e)
theorem length_putF (f : Str) (v : V) : ∀ fs : List (Str × V), (putF f v fs).length ≤ fs.length + 1
  | [] => by simp [putF]
  | (k, x) :: r => by
    have ih := length_putF f v r
    rw [show putF f v ((k, x) :: r) = (if k = f then (k, v) :: r else (k, x) :: putF f v r) from rfl]
    by_cases hk : k = f
    · rw [if_pos hk, List.length_cons, List.length_cons]; omega
    · rw [if_neg hk, List.length_cons, List.length_cons]; omega
theorem RelO.some_of {v : V} {o : Option Value} (r : RelO (some v) o) : ∃ u, o = some u ∧ RelV v u := by
  cases o with
  | none => exact (show False from r).elim
  | some u => exact ⟨u, rfl, r⟩
theorem RelO.none_of {o : Option Value} (r : RelO none o) : o = none := by
  cases o with
  | none => rfl
  | some u => exact (show False from r).elim
theorem handed_of {v : V} {u : Value} (r : RelV v u) : PySem.W.handedIn u = true := by
  cases v with
  | non => cases (show u = Value.none from r); rfl
  | bl b => cases (show u = Value.bool b from r); rfl
  | int i => obtain ⟨t, e⟩ := (show ∃ t, u = Value.int i t from r); cases e; rfl
  | str x => obtain ⟨t, e⟩ := (show ∃ t, u = Value.str x t from r); cases e; rfl
  | byt b => obtain ⟨t, e⟩ := (show ∃ t, u = Value.bytes b t from r); cases e; rfl
  | flt b => obtain ⟨t, e⟩ := (show ∃ t, u = Value.float b t from r); cases e; rfl
  | ref a => cases (show u = Value.ref a from r); rfl
  | ty n => cases (show u = Value.type n from r); rfl
section
variable {P : Program} {w : World} {H H' : Hp} {h h' : Heap} {a C dx : Addr} {fs fs' : List (Str × V)}
theorem ins_get (hok : HOk P w H h) (e : H a = some (.ins C dx fs)) : ∃ mA, ObjM h a dx C mA ∧ (∀ f, RelO (fs.lookup f) (mA f)) ∧ PySem.Within mA (fs.map (·.1)) ∧ fs.length ≤ 1000 ∧ H dx = some (.own a) := by
  obtain ⟨d, z, ne, ob, mA, n, r, q⟩ := (show ObjOk P w H h a (.ins C dx fs) from hok a _ e)
  exact ⟨mA, ⟨ob, n, ne⟩, r, q, z, d⟩
end
structure Cls (K : PySem.W.Frag) (C : Addr) : Prop where
  pg : PySem.W.plainGet K C Str.empty = true
  hd : PySem.W.hasDictIn K C = true
  po : PySem.W.plainOver K C = true
  sa : PySem.W.findIn K (.ref C) "__setattr__" = some (some (.builtin "object.__setattr__"))
theorem Cls.get {K : PySem.W.Frag} {C : Addr} (c : Cls K C) (f : Str) : PySem.W.plainGet K C f = true := c.pg
def NoAttr (K : PySem.W.Frag) (C : Addr) (f : Str) : Prop := PySem.W.findIn K (.ref C) f = some none
theorem NoAttr.taker {K : PySem.W.Frag} {C : Addr} {f : Str} (n : NoAttr K C f) : PySem.W.takerIn K C f = some none := by
  unfold PySem.W.takerIn
  rw [show PySem.W.findIn K (.ref C) f = some none from n]
  rfl
structure Meth (K : PySem.W.Frag) (C : Addr) (m : Str) (f : Addr) : Prop where
  at_ : PySem.W.findIn K (.ref C) m = some (some (.ref f))
  fn : PySem.W.isFn K (.ref f) = true
  kp : PySem.W.keepIn K (.ref f) = true
section
variable {X : Cx} {pins : List (Addr × Obj)} {σ : St} {H : Hp} {s : Shared} {a C dx : Addr} {fs : List (Str × V)} {f : Str} {v : V} {A : Around} {E : Value → Shared → Prop}
theorem getattr_ok {b : Bool} {Q : Value → Shared → Prop} (I : Inv X pins σ H s) (e : H a = some (.ins C dx fs)) (c : Cls X.K C) (n : NoAttr X.K C f) (l : fs.lookup f = some v)
    (h : ∀ u s', Inv X pins σ H s' → RelV v u → Q u s') : wpAny (model X.prog X.w) A (getAttr (.ref a) f b) Q E s := by
  obtain ⟨mA, O, r, _, _, _⟩ := ins_get I.hok e
  obtain ⟨u, hu, ru⟩ := RelO.some_of (v := v) (o := mA f) (by rw [← l]; exact r f)
  exact get_map I.kIn O (c.get f) c.hd n hu (handed_of ru) (h u _ (I.tok _) ru)
theorem getmeth_ok {m : Str} {g : Addr} {pl : Sem Bool} {Q : Value × List Value → Shared → Prop} (I : Inv X pins σ H s) (e : H a = some (.ins C dx fs)) (c : Cls X.K C) (k : Meth X.K C m g) (l : fs.lookup m = none)
    (h : Q (.ref g, [.ref a]) s) : wpAny (model X.prog X.w) A (getMethod (.ref a) m pl) Q E s := by
  obtain ⟨mA, O, r, _, _, _⟩ := ins_get I.hok e
  have hn : mA m = none := RelO.none_of (by rw [← l]; exact r m)
  exact get_meth I.kIn O (c.get m) k.at_ k.fn hn h
theorem setattr_ok {y : V} {u : Value} {Q : Unit → Shared → Prop} (I : Inv X pins σ H s) (e : H a = some (.ins C dx fs)) (c : Cls X.K C) (n : NoAttr X.K C f) (hl : fs.length < 1000) (ry : RelV y u)
    (h : ∀ s', Inv X pins σ (upd H a (.ins C dx (putF f y fs))) s' → Q () s') : wpAny (model X.prog X.w) A (setAttr (.ref a) f u) Q E s := by
  obtain ⟨mA, O, r, wi, _, ho⟩ := ins_get I.hok e
  have hz : (fs.map (·.1)).length ≤ sizeLine := by rw [List.length_map, sizeLine_eq]; omega
  refine set_map I.kIn O c.sa c.po n.taker c.hd wi hz fun h' O' sb => h _ ?_
  have hd : ∃ o, h'.get? dx = some o := let ⟨o, _, _, e', _⟩ := O'.ns; ⟨o, e'⟩
  refine I.write (x := a) (e := dx) (by rw [e]; exact True.intro) (.inr ho) (fun b q hb z => (sb.2 b hb).trans z) hd ?_
  refine ⟨by rw [upd_ne O.ne]; exact ho, ?_, O.ne, O'.obj, _, O'.ns, fun g => ?_, fun g hg => ?_⟩
  · have := length_putF f y fs; omega
  · show RelO ((putF f y fs).lookup g) (if g = f then some u else mA g)
    rw [lookup_putF]
    by_cases q : g = f
    · rw [if_pos q, if_pos q]; exact ry
    · rw [if_neg q, if_neg q]; exact r g
  · by_cases q : g = f
    · rw [q]; exact (keys_putF f y fs).1
    · refine (keys_putF f y fs).2 g (wi g fun z => hg ?_)
      show (if g = f then some u else mA g) = none
      rw [if_neg q]; exact z
theorem Inv.made (I : Inv X pins σ H s) : Inv X pins σ (upd (upd H s.heap.objs.size (.own (s.heap.objs.size + 1))) (s.heap.objs.size + 1) (.ins C s.heap.objs.size []))
    { s with heap := (s.heap.push PySem.W.emptyDict).push (PySem.W.instObj C s.heap.objs.size) } := by
  have e1 : (s.heap.push PySem.W.emptyDict).get? s.heap.objs.size = some PySem.W.emptyDict := Heap.get?_push_size s.heap rfl
  have e2 : ((s.heap.push PySem.W.emptyDict).push (PySem.W.instObj C s.heap.objs.size)).get? (s.heap.objs.size + 1) = some (PySem.W.instObj C s.heap.objs.size) := by
    have := Heap.get?_push_size (s.heap.push PySem.W.emptyDict) (o := PySem.W.instObj C s.heap.objs.size) rfl
    rwa [Heap.size_push] at this
  have e3 : (s.heap.push PySem.W.emptyDict).Ns s.heap.objs.size (fun _ => none) := ⟨PySem.W.emptyDict, #[], _, e1, rfl, (fun e he => absurd he (by simp)), fun _ => rfl⟩
  have I1 := I.laid (a := s.heap.objs.size) (o := .own (s.heap.objs.size + 1)) (h' := s.heap.push PySem.W.emptyDict) (t' := s.toks) (fun b u q => Heap.get?_push_of_some _ q) (Nat.le_refl _) ⟨_, e1⟩
  refine I1.laid (a := s.heap.objs.size + 1) (o := .ins C s.heap.objs.size []) (t' := s.toks) (fun b u q => Heap.get?_push_of_some _ q) (Nat.le_of_eq (Heap.size_push _ _)) ?_
  have ne : s.heap.objs.size ≠ s.heap.objs.size + 1 := Nat.ne_of_lt (Nat.lt_succ_self _)
  refine ⟨by rw [upd_ne ne, upd_same], Nat.zero_le _, ne, e2, fun _ => none, (Heap.Ns1.of_empty e3).at fun o q => Heap.get?_push_of_some _ q, fun _ => True.intro, fun y hy => absurd rfl hy⟩
theorem attr_of {prog : Program} {w : World} {env : Env} {e : Expr} {f : Str} {pos : Pos} {s : Shared} {Q : Value → Shared → Prop} (hb : attributeBase e f env (eval e env) = eval e env)
    (h : wpAny (model prog w) A (eval e env) (fun o s₁ => wpAny (model prog w) A (getAttr o f true) Q E s₁) E s) : wpAny (model prog w) A (eval (.Attribute e f pos) env) Q E s :=
  Attribute_any_ h (by rw [arm_eval_Attribute, hb])
end
inductive fldR (K : PySem.W.Frag) (f : Str) (x : V) (H1 : Hp) (Q : VK) : Prop
  | mk (a C dx fs v) (h1 : x = .ref a) (h2 : H1 a = some (.ins C dx fs)) (h3 : Cls K C) (h4 : NoAttr K C f) (h5 : fs.lookup f = some v) (h6 : Q v H1) : fldR K f x H1 Q
def tFld (K : PySem.W.Frag) (ta : TE) (f : Str) : TE := fun σ H Q => ta σ H fun x H1 => fldR K f x H1 Q
def sFld (K : PySem.W.Frag) (ta tv : TE) (f : Str) : TS := fun D σ H => tv σ H fun y H1 => ta σ H1 fun x H2 => ∃ a C dx fs, x = .ref a ∧ H2 a = some (.ins C dx fs) ∧ Cls K C ∧ NoAttr K C f ∧ fs.length < 1000 ∧
  D.nx σ (upd H2 a (.ins C dx (putF f y fs)))
def InOp (X : Cx) (op : Operator) (rd : V → V → Hp → VK → Prop) : Prop :=
  ∀ (pins : List (Addr × Obj)) (s : Shared) (σ : St) (H : Hp) (x y : V) (u v : Value) (Q : VK), Inv X pins σ H s → RelV x u → RelV y v → rd x y H Q → wpAny (model X.prog X.w) X.A (inplaceOp op u v) (EP X pins σ Q) X.xe s
section
variable {X : Cx} {o e value : Expr} {f : Str} {pos pos' tpos : Pos} {ta tv : TE}
theorem pe_fld (he : PE X e ta) (hb : attributeBase e f X.env (eval e X.env) = eval e X.env) : PE X (.Attribute e f pos) (tFld X.K ta f) := by
  intro pins s σ H Q I h
  refine attr_of hb (thn (he pins s σ H _ I h) fun u s1 ⟨x, H1, I1, rx, a, C, dx, fs, v, ex, ea, c, n, l, q⟩ => ?_)
  subst ex
  obtain rfl : u = Value.ref a := rx
  exact getattr_ok I1 ea c n l fun u' s2 I2 ru => ⟨v, H1, I2, ru, q⟩
theorem ps_fld (ha : PE X o ta) (hv : PE X value tv) (hs : swapsWith value (some (.Attribute o f pos')) pos.line X.env = pure false) : PS X (.Assign [.Attribute o f pos'] value pos) (sFld X.K ta tv f) := by
  intro pins s σ H D I h
  refine plainObj_wpAny_Assign_Attribute (thn (hv pins s σ H _ I h) fun u s1 ⟨y, H1, I1, ry, q⟩ => thn (ha pins s1 σ H1 _ I1 q) fun ov s2 ⟨x, H2, I2, rx, a, C, dx, fs, ex, ea, c, n, l, q2⟩ => ?_) hs
  subst ex
  obtain rfl : ov = Value.ref a := rx
  exact setattr_ok I2 ea c n l ry fun s3 I3 => ⟨σ, _, I3, q2⟩
def rSub : V → V → Hp → VK → Prop := fun x y H Q => ∃ i j, x = .int i ∧ y = .int j ∧ Q (.int (i - j)) H
theorem in_sub : InOp X .Sub rSub := by
  rintro pins s σ H x y u v Q I rx ry ⟨i, j, rfl, rfl, q⟩
  obtain ⟨t, rfl⟩ := (show ∃ t, u = Value.int i t from rx)
  obtain ⟨t', rfl⟩ := (show ∃ t', v = Value.int j t' from ry)
  exact PyProof.Rows.isub_int ⟨.int (i - j), H, I.tok _, ⟨_, rfl⟩, q⟩
end
section
variable {X : Cx} {pins : List (Addr × Obj)} {σ : St} {H : Hp} {s : Shared} {A : Around} {E : Value → Shared → Prop} {Q : Value → Shared → Prop} {c : Value} {b : Bool}
inductive TyOf (K : PySem.W.Frag) (H : Hp) : V → Value → Prop where
  | non : TyOf K H .non (.type "NoneType")
  | bl (x : Bool) : TyOf K H (.bl x) (.type "bool")
  | int (i : Int) : TyOf K H (.int i) (.type "int")
  | str (x : Str) : TyOf K H (.str x) (.type "str")
  | flt (x : UInt64) : TyOf K H (.flt x) (.type "float")
  | lst {a : Addr} {xs : List V} (e : H a = some (.lst xs)) : TyOf K H (.ref a) (.type "list")
  | frz {a : Addr} {o : Obj} {xs : List V} (e : H a = some (.frz o (.lst xs))) : TyOf K H (.ref a) (.type "list")
  | tup {a : Addr} {xs : List V} (e : H a = some (.tup xs)) : TyOf K H (.ref a) (.type "tuple")
  | dK {a : Addr} {kvs : List (Key × V)} (e : H a = some (.dK kvs)) : TyOf K H (.ref a) (.type "dict")
  | dT {a : Addr} {kvs : List (List Key × V)} (e : H a = some (.dT kvs)) : TyOf K H (.ref a) (.type "dict")
  | ins {a C dx : Addr} {fs : List (Str × V)} (e : H a = some (.ins C dx fs)) (cl : Cls K C) (ha : PySem.W.findIn K (.ref C) "__class__" = some (some (.builtin "object.__class__")))
      (hn : PySem.W.specialIn K (.builtin "object.__class__") "__get__" = some (some (.builtin "getset_descriptor.__get__"))) (htk : PySem.W.takesIn K (.builtin "object.__class__") = some true)
      (hm : PySem.W.mroIn K C (.type "object") = some true) : TyOf K H (.ref a) (.ref C)
theorem isinst_ok {x : V} {u t : Value} (I : Inv X pins σ H s) (rx : RelV x u) (ty : TyOf X.K H x t) (e : PySem.W.kitOne X.K t c = some b) (h : ∀ tk, Q (.bool b) { s with toks := tk }) :
    wpAny (model X.prog X.w) A (call (.builtin "isinstance") [u, c]) Q E s := by
  cases ty with
  | non => cases (show u = Value.none from rx); exact PySem.W.kia_one PySem.W.kitx_none I.kIn True.intro e (fun z => nomatch z) h
  | bl y => cases (show u = Value.bool y from rx); exact PySem.W.kia_one PySem.W.kitx_bool I.kIn True.intro e (fun z => nomatch z) h
  | int i => obtain ⟨t, q⟩ := (show ∃ t, u = Value.int i t from rx); cases q; exact PySem.W.kia_one PySem.W.kitx_int I.kIn True.intro e (fun z => nomatch z) h
  | str y => obtain ⟨t, q⟩ := (show ∃ t, u = Value.str y t from rx); cases q; exact PySem.W.kia_one PySem.W.kitx_str I.kIn True.intro e (fun z => nomatch z) h
  | flt y => obtain ⟨t, q⟩ := (show ∃ t, u = Value.float y t from rx); cases q; exact PySem.W.kia_one PySem.W.kitx_float I.kIn True.intro e (fun z => nomatch z) h
  | @lst a xs ea =>
    cases (show u = Value.ref a from rx)
    obtain ⟨_, _, n, _, h1⟩ := (show ObjOk X.prog X.w H s.heap a (.lst xs) from I.hok a _ ea)
    exact PySem.W.kia_one PySem.W.kitx_list I.kIn ⟨_, h1, rfl⟩ e (fun z => nomatch z) h
  | @frz a ob xs ea =>
    cases (show u = Value.ref a from rx)
    obtain ⟨_, _, _, n, _, h1⟩ := (show ObjOk X.prog X.w H s.heap a (.frz ob (.lst xs)) from I.hok a _ ea)
    exact PySem.W.kia_one PySem.W.kitx_list I.kIn ⟨_, h1, rfl⟩ e (fun z => nomatch z) h
  | @tup a xs ea =>
    cases (show u = Value.ref a from rx)
    obtain ⟨_, _, _, p⟩ := (show ObjOk X.prog X.w H s.heap a (.tup xs) from I.hok a _ ea)
    obtain ⟨o, h1, h2, _⟩ := p
    exact PySem.W.kia_one PySem.W.kitx_tuple I.kIn ⟨o, h1, h2⟩ e (fun z => nomatch z) h
  | @dK a kvs ea =>
    cases (show u = Value.ref a from rx)
    obtain ⟨_, _, vs, _, p⟩ := (show ObjOk X.prog X.w H s.heap a (.dK kvs) from I.hok a _ ea)
    obtain ⟨o, es, ep, h1, h2, _⟩ := p
    exact PySem.W.kia_one PySem.W.kitx_dict I.kIn ⟨o, h1, h2.1⟩ e (fun z => nomatch z) h
  | @dT a kvs ea =>
    cases (show u = Value.ref a from rx)
    obtain ⟨_, _, xs, _, o, es, ep, h1, h2, _⟩ := (show ObjOk X.prog X.w H s.heap a (.dT kvs) from I.hok a _ ea)
    exact PySem.W.kia_one PySem.W.kitx_dict I.kIn ⟨o, h1, h2.1⟩ e (fun z => nomatch z) h
  | @ins a C dx fs ea cl ha hn htk hm =>
    cases (show u = Value.ref a from rx)
    obtain ⟨mA, O, _⟩ := ins_get I.hok ea
    obtain ⟨od, J, _⟩ := O.look
    exact PySem.W.kia_one (PySem.W.kitx_own (cl.get _) cl.hd ha hn htk hm) I.kIn J e (fun z => nomatch z) h
end
end L2
namespace L2
open PySem PySem.Spec PyProof.Rows
structure Room (k : Nat) (A : Around) : Prop where
  hd : A.handled = none
  dp : A.depth + 3 * k + 5 < recursionLimit
  un : A.units + 16 * k + 200 < cLine
  gd : A.guards = some []
theorem Room.mono {j k : Nat} {A : Around} (r : Room k A) (h : j ≤ k) : Room j A := ⟨r.hd, by have := r.dp; omega, by have := r.un; omega, r.gd⟩
theorem Room.deeper {k : Nat} {A : Around} (r : Room (k + 1) A) (env : Env) : Room k (A.deeper env) :=
  ⟨r.hd, by have := r.dp; show A.depth + 1 + 3 * k + 5 < _; omega, by have := r.un; show A.units + 3 + 16 * k + 200 < _; omega, r.gd⟩
theorem make_depth {A : Around} {C : Addr} {us : List Value} {kw : List (Str × Value)} : (A.under (.builtin "type.__call__" ⟨.ref C :: us, kw⟩)).depth = A.depth + 1 := by
  first | rfl | simp [Around.under, Code.weight, Code.isCreation, Code.isGuard, Code.isCaller, Code.frames, Code.isFrame, guardIds]
theorem make_units {A : Around} {C : Addr} {us : List Value} {kw : List (Str × Value)} : (A.under (.builtin "type.__call__" ⟨.ref C :: us, kw⟩)).units = A.units + 1 := by
  first | rfl | simp [Around.under, Code.cUnits, Code.frames, Code.isFrame]
theorem Room.make {k : Nat} {A : Around} (r : Room (k + 1) A) (C : Addr) (us : List Value) (kw : List (Str × Value)) : Room k (A.under (.builtin "type.__call__" ⟨.ref C :: us, kw⟩)) :=
  ⟨r.hd, by have := r.dp; rw [make_depth]; omega, by have := r.un; rw [make_units]; omega, by have h := r.gd; first | (unfold Around.under; simp [h, pushGuards, Code.guards, Code.isGuard, guardIds]) | (simp [Around.under, h, pushGuards, Code.guards, Code.isGuard, guardIds])⟩
theorem Room.depth {k : Nat} {A : Around} (r : Room k A) : A.depth < recursionLimit := by have := r.dp; omega
theorem Room.units {k : Nat} {A : Around} (r : Room k A) : A.units + 64 < cLine := by have := r.un; omega
def tNil : TA := fun _ H Q => Q [] H
def tCons (ta : TE) (tr : TA) : TA := fun σ H Q => ta σ H fun x H1 => tr σ H1 fun xs H2 => Q (x :: xs) H2
section
variable {X : Cx} {e : Expr} {es : List Expr} {te : TE} {t : TA} {pos : Pos}
theorem pa_nil : PA X [] tNil := fun _ _ _ _ H Q I h => Calls.spliced_nil ⟨[], H, I, .nil, h⟩
theorem pa_cons (ha : PE X e te) (hr : PA X es t) (hs : starEach (e :: es) X.env = (false, eval e X.env) :: starEach es X.env := by rfl) : PA X (e :: es) (tCons te t) := by
  intro pos pins s σ H Q I h
  rw [hs]
  show wpAny _ _ (spliced ((false, eval e X.env) :: backTo pos (starEach es X.env))) _ _ s
  refine Calls.spliced_cons (thn (ha pins s σ H _ I h) fun u s1 ⟨x, H1, I1, r1, q1⟩ => ?_)
  exact thn (hr pos pins s1 σ H1 _ I1 q1) fun us s2 ⟨xs, H2, I2, r2, q2⟩ => ⟨x :: xs, H2, I2, .cons r1 r2, q2⟩
def tTup (t : TA) : TE := fun σ H Q => t σ H fun xs H1 => xs.length ≤ sizeLine ∧ ∀ p, H1 p = none → Q (.ref p) (upd H1 p (.tup xs))
def tLst (t : TA) : TE := fun σ H Q => t σ H fun xs H1 => xs.length ≤ sizeLine ∧ ∀ p, H1 p = none → Q (.ref p) (upd H1 p (.lst xs))
theorem pe_tup {x1} (h : PA X es t) : PE X (.Tuple es x1 pos) (tTup t) := by
  intro pins s σ H Q I hq
  refine wpAny_Tuple_spliced (thn (h pos pins s σ H _ I hq) fun us s1 ⟨xs, H1, I1, r, z, q⟩ => ⟨by rw [← r.length]; exact z, ?_⟩)
  have hf : H1 s1.heap.objs.size = none := I1.hok.fresh (Nat.le_refl _)
  refine ⟨.ref s1.heap.objs.size, upd H1 s1.heap.objs.size (.tup xs), I1.laid (t' := s1.toks) (fun b u e => Heap.get?_push_of_some _ e) (Nat.le_refl _) ?_, rfl, q _ hf⟩
  exact ⟨z, us, r, ⟨_, Heap.get?_push_size _ rfl, rfl, _, rfl⟩⟩
theorem pe_lst (h : PA X es t) : PE X (.List es pos) (tLst t) := by
  intro pins s σ H Q I hq
  refine wpAny_List_spliced (thn (h pos pins s σ H _ I hq) fun us s1 ⟨xs, H1, I1, r, z, q⟩ => ⟨by rw [← r.length]; exact z, ?_⟩)
  have hf : H1 s1.heap.objs.size = none := I1.hok.fresh (Nat.le_refl _)
  refine ⟨.ref s1.heap.objs.size, upd H1 s1.heap.objs.size (.lst xs), I1.laid (t' := s1.toks) (fun b u e => Heap.get?_push_of_some _ e) (Nat.le_refl _) ?_, rfl, q _ hf⟩
  exact ⟨z, us, 0, r, Heap.get?_push_size _ rfl⟩
end
abbrev Sp := List V → Hp → VK → XK → Prop
abbrev CXT := List Env → Hp → Shared → XK → Value → Shared → Prop
structure Env0 (P : Program) (w : World) (K : PySem.W.Frag) (mg : Str → Option Value) (base : Heap) (A : Around) (outer : List Env) (s : Shared) (H : Hp) : Prop where
  frames : A.frames = some outer
  mod : Mod K mg base
  bs : ∀ b o, base.get? b = some o → s.heap.get? b = some o ∧ H b = none
  bsz : base.objs.size ≤ s.heap.objs.size
  funs : s.heap.FunFrames base outer
  frf : ∀ b ∈ frs outer, H b = none
  hok : HOk P w H s.heap
  bare : AllBare s.gens
def CE (outer : List Env) (P : Program) (w : World) (H : Hp) (s : Shared) (Q : VK) (u : Value) (s' : Shared) : Prop :=
  ∃ v H', s'.os = s.os ∧ AllBare s'.gens ∧ Un (frs outer) [] H H' s.heap s'.heap ∧ HOk P w H' s'.heap ∧ RelV v u ∧ Q v H'
def CR (CX : CXT) (outer : List Env) (P : Program) (w : World) (H : Hp) (s : Shared) (Q : VK) (E : XK) (r : Result) (s' : Shared) : Prop :=
  match r with
  | .ok (.ret u) => CE outer P w H s Q u s'
  | .ok _ => False
  | .error e => CX outer H s E e s'
structure FnOk (P : Program) (w : World) (K : PySem.W.Frag) (mg : Str → Option Value) (base : Heap) (CX : CXT) (k : Nat) (f : Addr) (fd : FuncData) (ps : List Str) (sp : Sp) : Prop where
  len : ∀ vs H Q E, sp vs H Q E → vs.length = ps.length
  run : ∀ (A : Around) (outer : List Env) (s : Shared) (H : Hp) (args : Args) (us : List Value) (vs : List V) (Q : VK) (E : XK), Room k A → Env0 P w K mg base A outer s H → BindsTo s fd args (ps.zip us) → Vals vs us → sp vs H Q E →
    codeAny (model P w) A (.call (.ref f) args) (CR CX outer P w H s Q E) s
theorem Env0.make {P : Program} {w : World} {K : PySem.W.Frag} {mg : Str → Option Value} {base : Heap} {A : Around} {outer : List Env} {s : Shared} {H : Hp} (e : Env0 P w K mg base A outer s H) (C : Addr) (us : List Value) (kw : List (Str × Value)) :
    Env0 P w K mg base (A.under (.builtin "type.__call__" ⟨.ref C :: us, kw⟩)) outer s H := ⟨by first | exact e.frames | (simpa [Around.under, Code.envs, Code.isFrame, pushEnvs] using e.frames), e.mod, e.bs, e.bsz, e.funs, e.frf, e.hok, e.bare⟩
section
variable {X : Cx} {pins : List (Addr × Obj)} {σ : St} {H : Hp} {s s' : Shared}
theorem Inv.env0 (I : Inv X pins σ H s) : Env0 X.prog X.w X.K X.mg X.base X.A X.stack s H :=
  ⟨I.ok.frames, I.ok.mod, I.bs, Nat.le_trans I.ok.bsz I.sz, I.stack, I.stkFree, I.hok, I.bare⟩
theorem Inv.after {Q : VK} {u : Value} (I : Inv X pins σ H s) (h : CE X.stack X.prog X.w H s Q u s') : EP X pins σ Q u s' := by
  obtain ⟨v, H', os, bare, un, hok, r, q⟩ := h
  obtain ⟨hh, g, d, t, os'⟩ := s'
  obtain rfl : os' = s.os := os
  exact ⟨v, H', I.call (h' := hh) (g' := g) (d' := d) (t' := t) (ch := []) un hok bare (fun b z => absurd z (by simp)), r, q⟩
end
def tCall (sp : Sp) (dvs : List V) (E : XK) (t : TA) : TE := fun σ H Q => t σ H fun vs H1 => sp (vs ++ dvs) H1 Q E
def tMeth (C : Addr) (m : Str) (sp : Sp) (dvs : List V) (E : XK) (ta : TE) (t : TA) : TE := fun σ H Q => ta σ H fun x H1 => ∃ a dx fs, x = .ref a ∧ H1 a = some (.ins C dx fs) ∧ fs.lookup m = none ∧
  t σ H1 fun vs H2 => sp (x :: (vs ++ dvs)) H2 Q E
def tMake (C : Addr) (sp : Sp) (dvs : List V) (E : XK) (t : TA) : TE := fun σ H Q => t σ H fun vs H1 => ∀ x dx, H1 x = none → H1 dx = none → dx ≠ x →
  sp (.ref x :: (vs ++ dvs)) (upd (upd H1 dx (.own x)) x (.ins C dx [])) (fun v H2 => v = .non ∧ Q (.ref x) H2) E
def Binds (K : PySem.W.Frag) (fd : FuncData) (ps : List Str) (ds : List Value) : Prop :=
  ∀ (s : Shared) (us : List Value), K.In s.heap → (us ++ ds).length = ps.length → BindsTo s fd ⟨us, []⟩ (ps.zip (us ++ ds))
theorem Binds.all {K : PySem.W.Frag} {fd : FuncData} {ps : List Str} (h : ∀ us : List Value, us.length = ps.length → bindArgs fd ⟨us, []⟩ = pure (ps.zip us)) : Binds K fd ps [] := fun s us _ hl => by
  rw [List.append_nil] at hl ⊢
  exact .of_eq (h us hl)
def Passes (CX : CXT) (X : Cx) (E : XK) : Prop := ∀ (pins : List (Addr × Obj)) (σ : St) (H : Hp) (s : Shared) (e : Value) (s' : Shared), Inv X pins σ H s → CX X.stack H s E e s' → X.xe e s'
section
variable {X : Cx} {CX : CXT} {k : Nat} {f C : Addr} {fd : FuncData} {ps : List Str} {sp : Sp} {dvs : List V} {ds : List Value} {E : XK} {x m : Str} {p pos apos : Pos} {e o : Expr} {es : List Expr} {ta : TE} {t : TA}
theorem run_fn {pins : List (Addr × Obj)} {σ : St} {H : Hp} {s : Shared} {Q : VK} {us : List Value} {vs : List V} (F : FnOk X.prog X.w X.K X.mg X.base CX k f fd ps sp) (hr : Room k X.A) (hb : Binds X.K fd ps ds) (hd : Vals dvs ds) (hx : Passes CX X E)
    (I : Inv X pins σ H s) (r : Vals vs us) (h : sp (vs ++ dvs) H Q E) : wpAny (model X.prog X.w) X.A (call (.ref f) us) (EP X pins σ Q) X.xe s := by
  have r2 : Vals (vs ++ dvs) (us ++ ds) := r.append hd
  have hl : (us ++ ds).length = ps.length := by rw [← r2.length]; exact F.len _ _ _ _ h
  refine wpAny_call (codeAny_mono (F.run X.A X.stack s H ⟨us, []⟩ (us ++ ds) (vs ++ dvs) Q E hr I.env0 (hb s us I.kIn hl) r2 h) fun r s' hq => ?_)
  cases r with
  | error e => exact hx pins σ H s e s' I hq
  | ok fl =>
    cases fl with
    | ret u => exact I.after hq
    | next => exact False.elim hq
    | brk => exact False.elim hq
    | cont => exact False.elim hq
theorem pe_call (F : FnOk X.prog X.w X.K X.mg X.base CX k f fd ps sp) (hr : Room k X.A) (hg : Gl X x) (hm : X.mg x = some (.ref f)) (hk : PySem.W.keepIn X.K (.ref f) = true) (hb : Binds X.K fd ps ds) (hd : Vals dvs ds) (hx : Passes CX X E)
    (ha : PA X (e :: es) t) (hdb : (x == ("__debug__" : Str)) = false := by decide) (he : starEach (e :: es) X.env = (false, eval e X.env) :: starEach es X.env := by rfl) (hpl : (backTo pos (starEach es X.env)).any (·.1) = false := by rfl) :
    PE X (.Call (.Name x p) (e :: es) [] pos) (tCall sp dvs E t) := by
  intro pins s σ H Q I h
  refine wpAny_Call_Name_kw (ld_glob I hg hm ?_ hdb)
  refine PySem.W.callWith_K (h₀ := X.base) I.ok.mod.kin hk (thn (ha pos pins s σ H _ I h) fun us s1 ⟨vs, H1, I1, r, q⟩ => ⟨I1.kIn, ?_⟩) he hpl
  exact run_fn F hr hb hd hx I1 r q
theorem pe_call0 (F : FnOk X.prog X.w X.K X.mg X.base CX k f fd ps sp) (hr : Room k X.A) (hg : Gl X x) (hm : X.mg x = some (.ref f)) (hk : PySem.W.keepIn X.K (.ref f) = true) (hb : Binds X.K fd ps ds) (hd : Vals dvs ds) (hx : Passes CX X E)
    (hdb : (x == ("__debug__" : Str)) = false := by decide) : PE X (.Call (.Name x p) [] [] pos) (tCall sp dvs E tNil) := by
  intro pins s σ H Q I h
  refine wpAny_Call_Name_kw (ld_glob I hg hm ?_ hdb)
  exact PySem.W.callWith_K0 I.kIn hk (run_fn (us := []) F hr hb hd hx I .nil h)
theorem pe_meth {pl : Sem Bool} (he : PE X o ta) (c : Cls X.K C) (hm : Meth X.K C m f) (F : FnOk X.prog X.w X.K X.mg X.base CX k f fd ps sp) (hr : Room k X.A) (hb : Binds X.K fd ps ds) (hd : Vals dvs ds) (hx : Passes CX X E) (ha : PA X (e :: es) t)
    (hst : starEach (e :: es) X.env = (false, eval e X.env) :: starEach es X.env := by rfl) (hpl : (backTo pos (starEach es X.env)).any (·.1) = false := by rfl)
    (ht : eval (.Call (.Attribute o m apos) (e :: es) [] pos) X.env = (do
      let ov ← eval o X.env
      standAt apos.atName
      let (f, first) ← holding [ov] (getMethod ov m pl)
      callWith pos f first (backTo pos (starEach (e :: es) X.env)) (backToKw pos (keywordEach [] X.env))) := by rfl) :
    PE X (.Call (.Attribute o m apos) (e :: es) [] pos) (tMeth C m sp dvs E ta t) := by
  intro pins s σ H Q I h
  refine PySem.W.methodCall_KW (pl := pl) (thn (he pins s σ H _ I h) fun u s1 ⟨x, H1, I1, rx, a, dx, fs, ex, ea, l, q⟩ => ?_) ht
  subst ex
  obtain rfl : u = Value.ref a := rx
  refine getmeth_ok I1 ea c hm l ?_
  refine PySem.W.callWith_K (first := [.ref a]) (h₀ := X.base) I.ok.mod.kin hm.kp (thn (ha pos pins s1 σ H1 _ I1 q) fun us s2 ⟨vs, H2, I2, r, q2⟩ => ⟨I2.kIn, ?_⟩) hst hpl
  exact run_fn (us := .ref a :: us) (vs := .ref a :: vs) F hr hb hd hx I2 (.cons rfl r) q2
structure Mk (K : PySem.W.Frag) (C f : Addr) : Prop where
  makes : PySem.W.makesIn K C = true
  init : PySem.W.findIn K (.ref C) "__init__" = some (some (.ref f))
  fn : PySem.W.isFn K (.ref f) = true
  kp : PySem.W.keepIn K (.ref C) = true
theorem run_make {pins : List (Addr × Obj)} {σ : St} {H : Hp} {s : Shared} {Q : VK} {us : List Value} {vs : List V} (M : Mk X.K C f) (F : FnOk X.prog X.w X.K X.mg X.base CX k f fd ps sp) (hr : Room (k + 1) X.A) (hb : Binds X.K fd ps ds) (hd : Vals dvs ds)
    (hx : Passes CX X E) (I : Inv X pins σ H s) (r : Vals vs us)
    (h : ∀ x dx, H x = none → H dx = none → dx ≠ x → sp (.ref x :: (vs ++ dvs)) (upd (upd H dx (.own x)) x (.ins C dx [])) (fun v H2 => v = .non ∧ Q (.ref x) H2) E) :
    wpAny (model X.prog X.w) X.A (call (.ref C) us) (EP X pins σ Q) X.xe s := by
  have hq := h (s.heap.objs.size + 1) s.heap.objs.size (I.hok.fresh (Nat.le_succ _)) (I.hok.fresh (Nat.le_refl _)) (Nat.ne_of_lt (Nat.lt_succ_self _))
  have I2 := Inv.made (C := C) I
  have r2 : Vals (V.ref (s.heap.objs.size + 1) :: (vs ++ dvs)) (Value.ref (s.heap.objs.size + 1) :: (us ++ ds)) := .cons rfl (r.append hd)
  have hl : (Value.ref (s.heap.objs.size + 1) :: us ++ ds).length = ps.length := by
    have e := r2.length
    rw [F.len _ _ _ _ hq] at e
    exact e.symm
  refine wpAny_call (make_map (f := f) I.kIn M.makes M.init (beq_iff_eq.mp M.fn) (codeAny_mono (F.run _ X.stack _ _ ⟨Value.ref (s.heap.objs.size + 1) :: us, []⟩ (Value.ref (s.heap.objs.size + 1) :: (us ++ ds)) _ _ E (hr.make C us [])
    (I2.env0.make C us []) (hb _ (Value.ref (s.heap.objs.size + 1) :: us) I2.kIn hl) r2 hq) fun r s' hq' => ?_))
  cases r with
  | error e => exact hx pins σ _ _ e s' I2 hq'
  | ok fl =>
    cases fl with
    | ret u =>
      obtain ⟨v, H', I3, rv, ev, q3⟩ := I2.after hq'
      subst ev
      exact ⟨rv, ⟨V.ref (s.heap.objs.size + 1), H', I3, rfl, q3⟩⟩
    | next => exact False.elim hq'
    | brk => exact False.elim hq'
    | cont => exact False.elim hq'
theorem pe_make0 (M : Mk X.K C f) (F : FnOk X.prog X.w X.K X.mg X.base CX k f fd ps sp) (hr : Room (k + 1) X.A) (hg : Gl X x) (hm : X.mg x = some (.ref C)) (hb : Binds X.K fd ps ds) (hd : Vals dvs ds) (hx : Passes CX X E)
    (hdb : (x == ("__debug__" : Str)) = false := by decide) : PE X (.Call (.Name x p) [] [] pos) (tMake C sp dvs E tNil) := by
  intro pins s σ H Q I h
  refine wpAny_Call_Name_kw (ld_glob I hg hm ?_ hdb)
  exact PySem.W.callWith_K0 I.kIn M.kp (run_make (us := []) M F hr hb hd hx I .nil h)
end
section
variable {X : Cx} {CX : CXT} {k : Nat} {f C : Addr} {fd : FuncData} {ps ks : List Str} {sp : Sp} {E : XK} {x m : Str} {p pos apos kpos : Pos} {e o : Expr} {es : List Expr} {kws : List Keyword} {te ta : TE} {t tk : TA} {nm : Option Str}
variable {g : List Value → List Value → List Value} {gV : List V → List V → List V}
end
structure FnScope (N P : List Str) (sc : Scope) : Prop where
  kind : sc.kind = .function
  co : sc.isCoroutine = false
  gen : sc.isGenerator = false
  nd : N.Nodup
  pre : N.take P.length = P
  par : ∀ x ∈ P, sc.names.lookup x = some .local ∨ sc.names.lookup x = some .cell
  nofree : ∀ y ∈ sc.names, y.2 ≠ .free
theorem bindL_out {kindOf : Str → Option NameKind} {x : Str} : ∀ {binds : List (Str × Value)} {m : Str → Option Value}, (∀ v, (x, v) ∉ binds) → bindL kindOf binds m x = m x
  | [], _, _ => rfl
  | (n, v) :: r, m, h => by
    unfold bindL
    rw [bindL_out fun w hw => h w (List.mem_cons_of_mem _ hw)]
    split
    · have : x ≠ n := by rintro rfl; exact h v List.mem_cons_self
      simp [this]
    · rfl
theorem bindC_out {kindOf : Str → Option NameKind} {x : Str} : ∀ {binds : List (Str × Value)} {m : Str → Option Value}, (∀ v, (x, v) ∉ binds) → bindC kindOf binds m x = m x
  | [], _, _ => rfl
  | (n, v) :: r, m, h => by
    unfold bindC
    rw [bindC_out fun w hw => h w (List.mem_cons_of_mem _ hw)]
    split
    · rfl
    · have : x ≠ n := by rintro rfl; exact h v List.mem_cons_self
      simp [this]
theorem bindL_get {kindOf : Str → Option NameKind} {x : Str} {v : Value} : ∀ {P : List Str} {vs : List Value} {i : Nat} {m : Str → Option Value}, P.Nodup → P[i]? = some x → vs[i]? = some v → kindOf x = some .local →
    bindL kindOf (P.zip vs) m x = some v
  | [], _, _, _, _, h, _, _ => by simp at h
  | _ :: _, [], _, _, _, _, h, _ => by simp at h
  | p :: P, w :: vs, 0, m, nd, h1, h2, hk => by
    simp at h1 h2; subst h1; subst h2
    show bindL kindOf ((p, w) :: P.zip vs) m p = _
    unfold bindL
    rw [bindL_out fun v hv => (List.nodup_cons.mp nd).1 (List.of_mem_zip hv).1, if_pos hk]
    simp
  | p :: P, w :: vs, i + 1, m, nd, h1, h2, hk => by
    show bindL kindOf ((p, w) :: P.zip vs) m x = _
    unfold bindL
    exact bindL_get (i := i) (List.nodup_cons.mp nd).2 (by simpa using h1) (by simpa using h2) hk
theorem bindC_get {kindOf : Str → Option NameKind} {x : Str} {v : Value} : ∀ {P : List Str} {vs : List Value} {i : Nat} {m : Str → Option Value}, P.Nodup → P[i]? = some x → vs[i]? = some v → kindOf x ≠ some .local →
    bindC kindOf (P.zip vs) m x = some v
  | [], _, _, _, _, h, _, _ => by simp at h
  | _ :: _, [], _, _, _, _, h, _ => by simp at h
  | p :: P, w :: vs, 0, m, nd, h1, h2, hk => by
    simp at h1 h2; subst h1; subst h2
    show bindC kindOf ((p, w) :: P.zip vs) m p = _
    unfold bindC
    rw [bindC_out fun v hv => (List.nodup_cons.mp nd).1 (List.of_mem_zip hv).1, if_neg hk]
    simp
  | p :: P, w :: vs, i + 1, m, nd, h1, h2, hk => by
    show bindC kindOf ((p, w) :: P.zip vs) m x = _
    unfold bindC
    exact bindC_get (i := i) (List.nodup_cons.mp nd).2 (by simpa using h1) (by simpa using h2) hk
def start (N : List Str) (vs : List V) : St := vs.map some ++ List.replicate (N.length - vs.length) none
def cxOf (CX : CXT) (P : Program) (w : World) (K : PySem.W.Frag) (mg : Str → Option Value) (base : Heap) (N : List Str) (qual : Str) (scope : Scope) (f : Addr) (cd : Value) (A : Around) (outer : List Env) (s : Shared) (H : Hp) (E : XK) : Cx where
  prog := P
  w := w
  K := K
  mg := mg
  base := base
  A := A.deeper (envOfC qual scope s.heap.objs.size f cd)
  N := N
  s₀ := s
  H₀ := H
  env := envOfC qual scope s.heap.objs.size f cd
  outer := outer
  stack := envOfC qual scope s.heap.objs.size f cd :: outer
  ex := []
  calm := true
  fn := fun _ => true
  pn := []
  xe := fun e s' => wpAny (model P w) (A.deeper (envOfC qual scope s.heap.objs.size f cd)) (leaving (envOfC qual scope s.heap.objs.size f cd) e) (fun _ s'' => CX outer H s E e s'') (fun e' s'' => CX outer H s E e' s'') s'
theorem cell_has {sc : Scope} {n : Nat} {x : Str} (h : sc.names.lookup x = some .cell) : ∃ c, (cellsFrom n sc.names []).lookup x = some c := by
  have q := PySem.W.cellsFrom_some sc.names n [] (.inl h)
  exact Option.isSome_iff_exists.mp q
theorem inv_start {CX : CXT} {P : Program} {w : World} {K : PySem.W.Frag} {mg : Str → Option Value} {base : Heap} {N ps : List Str} {qual : Str} {scope : Scope} {f : Addr} {cd : Value} {A : Around} {outer : List Env} {s s1 : Shared} {H : Hp} {E : XK} {us : List Value} {vs : List V}
    (S : FnScope N ps scope) (hd : A.handled = none) (e0 : Env0 P w K mg base A outer s H) (hl : vs.length = ps.length) (r : Vals vs us)
    (x : InCallC s s.heap.objs.size (bindL (envOfC qual scope s.heap.objs.size f cd).kindOf (ps.zip us) fun _ => none) (cellsFrom (s.heap.objs.size + 1) scope.names []) (bindC (envOfC qual scope s.heap.objs.size f cd).kindOf (ps.zip us) fun _ => none) s1) :
    Inv (cxOf CX P w K mg base N qual scope f cd A outer s H E) [] (start N vs) H s1 := by
  have hpl : ps.length ≤ N.length := by have := congrArg List.length S.pre; rw [List.length_take] at this; omega
  obtain ⟨h1, tk, rfl, hk⟩ := x.done
  have noA : ∀ b : Addr, b ∉ (cxOf CX P w K mg base N qual scope f cd A outer s H E).ex := fun b z => absurd (show b ∈ ([] : List Addr) from z) (by simp)
  refine ⟨⟨e0.mod, S.kind, rfl, rfl, Nat.le_refl _, fun y z c h1 h2 => ?_, fun y hy => ?_, fun y c _ h => ?_, fun _ => hd, Around.frames_deeper e0.frames, .inr ⟨rfl, rfl⟩, fun b z => absurd z (noA b), e0.bs, e0.bsz, fun b _ _ => noA b, fun b z => absurd z (noA b), e0.funs, e0.frf⟩,
    rfl, e0.bare, Un.kept hk, ⟨_, x.toInCall.ns, fun i y v h1 h2 h3 => ?_⟩, fun y c h => ⟨_, x.cell y c h⟩, e0.hok.fresh (Nat.le_refl _), fun y c h => ?_, fun p hp => absurd (show p ∈ ([] : List (Addr × Obj)) from hp) (by simp), e0.hok.kept hk, ?_⟩
  · exact name_of_addr x.apart (PySem.mem_of_lookup h1) (PySem.mem_of_lookup h2)
  · have hy : scope.names.lookup y = some .cell ∨ scope.names.lookup y = some .free := hy
    rcases hy with hy | hy
    · exact cell_has hy
    · exact absurd rfl (S.nofree _ (PySem.mem_of_lookup hy))
  · exact Nat.le_of_lt (x.above y c (PySem.mem_of_lookup h))
  · have hi : i < vs.length := by
      unfold start at h2
      by_cases hi : i < vs.length
      · exact hi
      · rw [List.getElem?_append_right (by simpa using hi)] at h2
        rw [List.getElem?_replicate] at h2
        split at h2 <;> cases h2
    have ha : vs[i]? = some v := by
      unfold start at h2
      rw [List.getElem?_append_left (by simpa using hi), List.getElem?_map] at h2
      cases e : vs[i]? with
      | none => rw [e] at h2; cases h2
      | some a => rw [e] at h2; cases h2; rfl
    obtain ⟨u, hu, rv⟩ := r.get ha
    have hp : ps[i]? = some y := by
      rw [← S.pre, List.getElem?_take_of_lt (by omega)]; exact h1
    have ndP : ps.Nodup := by rw [← S.pre]; exact S.nd.sublist (List.take_sublist _ _)
    refine ⟨u, rv, ?_⟩
    rcases S.par y (List.mem_of_getElem? hp) with k | k
    · exact .inl ⟨k, bindL_get ndP hp hu k⟩
    · obtain ⟨c, e⟩ := cell_has (n := s.heap.objs.size + 1) k
      refine .inr ⟨.inl k, c, e, ?_⟩
      have q := x.cell y c e
      rw [bindC_get ndP hp hu (by show scope.names.lookup y ≠ _; rw [k]; decide)] at q
      exact q
  · exact e0.hok.fresh (Nat.le_of_lt (x.above y c (PySem.mem_of_lookup h)))
  · unfold start
    show _ = N.length
    rw [List.length_append, List.length_map, List.length_replicate]
    omega
theorem fn_of {CX : CXT} {P : Program} {w : World} {K : PySem.W.Frag} {mg : Str → Option Value} {base : Heap} {k : Nat} {f : Addr} {name qual : Str} {params : Arguments} {body : List Stmt} {scope : Scope} {dV kV doc pm cdv ct oc : Value} {an od : Option Addr}
    {osl : Array (Option Value)} {N ps : List Str} {sp : Sp} (lk : K.lookup f = some ⟨oc, od, .func (PySem.W.fnOf name qual params body scope dV kV doc pm an cdv ct), osl⟩) (hcd : PySem.W.codeIn K cdv qual = true) (S : FnScope N ps scope)
    (len : ∀ vs H Q E, sp vs H Q E → vs.length = ps.length)
    (hbody : ∀ (A : Around) (outer : List Env) (s : Shared) (H : Hp) (vs : List V) (Q : VK) (E : XK), Room k (A.deeper (envOfC qual scope s.heap.objs.size f cdv)) → sp vs H Q E →
      ∃ t, PSs (cxOf CX P w K mg base N qual scope f cdv A outer s H E) body t ∧ t { nx := fun _ H' => Q .non H', rt := Q } (start N vs) H) :
    FnOk P w K mg base CX (k + 1) f (PySem.W.fnOf name qual params body scope dV kV doc pm an cdv ct) ps sp := by
  refine ⟨len, fun A outer s H args us vs Q E hr e0 hb r hsp => ?_⟩
  have hl := len _ _ _ _ hsp
  have KX : K.In s.heap := e0.mod.kin.keeps fun b o e => (e0.bs b o e).1
  have lim : s.heap.NoLimit := e0.mod.nolimit.keeps fun b o e => (e0.bs b o e).1
  have hkind : ∀ y ∈ ps.zip us, scope.names.lookup y.1 = some .local ∨ (scope.names.lookup y.1 = some .cell ∧ ((cellsFrom (s.heap.objs.size + 1) scope.names []).lookup y.1).isSome = true) := fun ⟨n, v⟩ hy => by
    rcases S.par n (List.of_mem_zip hy).1 with q | q
    · exact .inl q
    · exact .inr ⟨q, PySem.W.cellsFrom_some _ _ _ (.inl q)⟩
  refine codeAny_call_function hr.depth (KX _ _ lk) rfl S.co S.gen rfl (PySem.W.codeRec_of KX hcd) (hb _ _ _ _ ?_)
  refine wpAny_newFunctionEnv_cells S.kind hkind fun env he s1 x => ?_
  subst he
  refine ⟨lim.keeps x.toInCall.keep, codeAny_func ?_⟩
  obtain ⟨t, ht, hq⟩ := hbody A outer s H vs Q E (hr.deeper _) hsp
  have I : Inv (cxOf CX P w K mg base N qual scope f cdv A outer s H E) [] (start N vs) H s1 := inv_start S hr.hd e0 hl r x
  refine wpAny_mono (ht [] s1 (start N vs) H _ I hq) (fun fl s' hs => ?_) fun e s' hs => hs
  have fin : ∀ {σ' : St} {H' : Hp} {v : V} {u : Value}, Inv (cxOf CX P w K mg base N qual scope f cdv A outer s H E) [] σ' H' s' → RelV v u → Q v H' → CE outer P w H s Q u s' :=
    fun {σ' H' v u} J rv q => ⟨v, H', J.os, J.bare, J.base, J.hok, rv, q⟩
  cases fl with
  | ret u =>
    obtain ⟨v, σ', H', J, rv, q⟩ := hs
    exact fin J rv q
  | next =>
    obtain ⟨σ', H', J, q⟩ := hs
    exact fin (v := V.non) (u := Value.none) J rfl q
  | brk =>
    obtain ⟨_, _, _, q⟩ := hs
    exact False.elim q
  | cont =>
    obtain ⟨_, _, _, q⟩ := hs
    exact False.elim q
end L2
namespace L2
open PySem PySem.Spec PyProof.Rows
section
variable {X : Cx} {x : Str} {p pos : Pos} {e : Expr} {es : List Expr} {t : TA} {id T : String} {r : List V → Hp → VK → Prop}
def tCB (r : List V → Hp → VK → Prop) (t : TA) : TE := fun σ H Q => t σ H fun vs H1 => r vs H1 Q
theorem pe_callB (hc : CallR X (.builtin id) r) (hg : Gl X x) (hm : X.mg x = none) (hv : bootBuiltins x = some (.builtin id)) (ha : PA X (e :: es) t) (hn : x ≠ "__name__" := by decide) (hdb : (x == ("__debug__" : Str)) = false := by decide)
    (he : starEach (e :: es) X.env = (false, eval e X.env) :: starEach es X.env := by rfl) (hpl : (backTo pos (starEach es X.env)).any (·.1) = false := by rfl) : PE X (.Call (.Name x p) (e :: es) [] pos) (tCB r t) := by
  intro pins s σ H Q I h
  refine wpAny_Call_Name_kw (ld_blt I hg hm hv ?_ hn hdb)
  exact PyProof.Rows.callWith_builtin1 (thn (ha pos pins s σ H _ I h) fun us s1 ⟨vs, H1, I1, r1, q1⟩ => hc pins s1 σ H1 vs us Q I1 r1 q1) he hpl
theorem pe_callTy (hc : CallR X (.type T) r) (hg : Gl X x) (hm : X.mg x = none) (hv : bootBuiltins x = some (.type T)) (ha : PA X (e :: es) t) (hn : x ≠ "__name__" := by decide) (hdb : (x == ("__debug__" : Str)) = false := by decide)
    (he : starEach (e :: es) X.env = (false, eval e X.env) :: starEach es X.env := by rfl) (hpl : (backTo pos (starEach es X.env)).any (·.1) = false := by rfl) : PE X (.Call (.Name x p) (e :: es) [] pos) (tCB r t) := by
  intro pins s σ H Q I h
  refine wpAny_Call_Name_kw (ld_blt I hg hm hv ?_ hn hdb)
  exact PyProof.Rows.callWith_type1 (thn (ha pos pins s σ H _ I h) fun us s1 ⟨vs, H1, I1, r1, q1⟩ => hc pins s1 σ H1 vs us Q I1 r1 q1) he hpl
end
end L2
namespace HT
open PySem PyProof.Rows
section
open PySem.SeqAt
open PySem.AutoSeq1 (wpAny_loadPart')
open PySem.MeetsSeq PySem.MeetsSeq2 PySem.MeetsSeq3
end
section
variable {prog : Program} {w : World} {A : Around} {E : Value → Shared → Prop} {s : Shared}
def sIx (n d : Nat) : Option Int → Nat
  | none => d
  | some v => if v < 0 then (v + (n : Int)).toNat else min v.toNat n
theorem sIx_none (n d : Nat) : sIx n d none = d := rfl
theorem sIx_nat (n d k : Nat) : sIx n d (some (k : Int)) = min k n := by
  show (if (k : Int) < 0 then ((k : Int) + (n : Int)).toNat else min (k : Int).toNat n) = min k n
  rw [if_neg (by omega), Int.toNat_natCast]
end
end HT
namespace L2
open PySem PySem.Spec PyProof.Rows
abbrev TO := St → Hp → (Option Int → Hp → Prop) → Prop
def PO (X : Cx) (e : Option Expr) (t : TO) : Prop :=
  ∀ (pins : List (Addr × Obj)) (s : Shared) (σ : St) (H : Hp) (Q : Option Int → Hp → Prop), Inv X pins σ H s → t σ H Q →
    wpAny (model X.prog X.w) X.A (evalPart e X.env) (fun u s' => ∃ o H', Inv X pins σ H' s' ∧ IsPart u o ∧ Q o H') X.xe s
def tNoPart : TO := fun _ H Q => Q none H
def tPart (t : TE) : TO := fun σ H Q => t σ H fun x H1 => ∃ i, x = .int i ∧ Q (some i) H1
section
variable {X : Cx} {e : Expr} {te : TE} {lo hi : Option Expr} {tl th : TO} {pos p2 : Pos}
theorem po_none : PO X none tNoPart := by
  intro pins s σ H Q I h
  rw [evalPart_none]
  exact wpAny_pure ⟨none, H, I, .none, h⟩
theorem po_some (h : PE X e te) : PO X (some e) (tPart te) := by
  intro pins s σ H Q I hw
  rw [evalPart_some]
  refine thn (h pins s σ H _ I hw) fun u s1 ⟨x, H1, I1, r1, q1⟩ => ?_
  obtain ⟨i, rfl, q⟩ := q1
  obtain ⟨t, rfl⟩ := r1
  exact ⟨some i, H1, I1, .int i t, q⟩
def SlR (X : Cx) (r : V → Option Int → Option Int → Hp → VK → Prop) : Prop :=
  ∀ (pins : List (Addr × Obj)) (s : Shared) (σ : St) (H : Hp) (x : V) (v vl vu : Value) (lo hi : Option Int) (sl : Addr) (Q : VK), Inv X pins σ H s → RelV x v → s.heap.IsSliceOf sl vl vu .none → IsPart vl lo → IsPart vu hi → r x lo hi H Q →
    ∃ T id, typeLookup (.type T) "__getitem__" = pure (some (.builtin id)) ∧ s.TypeIs v T ∧ wpAny (model X.prog X.w) X.A (getItem v (.ref sl)) (EP X pins σ Q) X.xe s
def tSl (r : V → Option Int → Option Int → Hp → VK → Prop) (te : TE) (tl th : TO) : TE := fun σ H Q => te σ H fun x H1 => tl σ H1 fun l H2 => th σ H2 fun u H3 => r x l u H3 Q
theorem pe_slice {r : V → Option Int → Option Int → Hp → VK → Prop} (hr : SlR X r) (he : PE X e te) (hl : PO X lo tl) (hu : PO X hi th) : PE X (.Subscript e (.Slice lo hi none p2) pos) (tSl r te tl th) := by
  intro pins s σ H Q I h
  refine Subscript_ (thn (he pins s σ H _ I h) fun v s1 ⟨x, H1, I1, r1, q1⟩ => ?_)
  refine wpAny_Slice (thn (hl pins s1 σ H1 _ I1 q1) fun vl s2 ⟨l, H2, I2, pl, q2⟩ => thn (hu pins s2 σ H2 _ I2 q2) fun vu s3 ⟨u, H3, I3, pu, q3⟩ => ?_)
  rw [evalPart_none]
  refine wpAny_pure ?_
  have I4 : Inv X pins σ H3 { s3 with heap := s3.heap.push { cls := .type "slice", data := .fields #[vl, vu, .none] } } := I3.kept (t' := s3.toks) fun b ob q => Heap.get?_push_of_some _ q
  obtain ⟨T, id, hT, ht, hg⟩ := hr pins { s3 with heap := s3.heap.push { cls := .type "slice", data := .fields #[vl, vu, .none] } } σ H3 x v vl vu l u s3.heap.objs.size Q I4 r1 (Heap.IsSliceOf.new ..) pl pu q3
  show wpAny (model X.prog X.w) X.A (subscriptTail e (.Slice lo hi none p2) v (.ref s3.heap.objs.size)) (EP X pins σ Q) X.xe { s3 with heap := s3.heap.push { cls := .type "slice", data := .fields #[vl, vu, .none] } }
  exact tail_any (ops := [.ref s3.heap.objs.size, v]) ht hT hg (by with_unfolding_all rfl)
def cutV (xs : List V) (lo hi : Option Int) : List V := (xs.drop (HT.sIx xs.length 0 lo)).take (HT.sIx xs.length xs.length hi - HT.sIx xs.length 0 lo)
theorem cutV_length (xs : List V) (lo hi : Option Int) : (cutV xs lo hi).length ≤ xs.length := by
  unfold cutV
  rw [List.length_take, List.length_drop]
  omega
end
end L2
namespace L2
open PySem PySem.Spec PyProof.Rows
def ixN (n : Nat) (i : Int) : Option Nat := if 0 ≤ i then (if i < n then some i.toNat else none) else if -(n : Int) ≤ i then some (i + n).toNat else none
def atI {α : Type} (xs : List α) (i : Int) : Option α := (ixN xs.length i).bind fun j => xs[j]?
theorem ixN_seq {n : Nat} {i : Int} {j : Nat} (h : ixN n i = some j) : seqIndex? i n = some j ∧ j < n ∧ -(n : Int) ≤ i ∧ i < n := by
  unfold ixN at h
  by_cases h0 : 0 ≤ i
  · rw [if_pos h0] at h
    by_cases h1 : i < n
    · rw [if_pos h1] at h
      have e : i.toNat = j := Option.some.inj h
      exact ⟨by rw [seqIndex_of h0 h1, e], by omega, by omega, h1⟩
    · rw [if_neg h1] at h; cases h
  · rw [if_neg h0] at h
    by_cases h1 : -(n : Int) ≤ i
    · rw [if_pos h1] at h
      have e : (i + n).toNat = j := Option.some.inj h
      exact ⟨by rw [seqIndex_neg (by omega) h1, e], by omega, h1, by omega⟩
    · rw [if_neg h1] at h; cases h
theorem atI_get {α : Type} {xs : List α} {i : Int} {v : α} (h : atI xs i = some v) : ∃ j, seqIndex? i xs.length = some j ∧ xs[j]? = some v ∧ j < xs.length ∧ -(xs.length : Int) ≤ i ∧ i < xs.length := by
  unfold atI at h
  cases e : ixN xs.length i with
  | none => rw [e] at h; cases h
  | some j =>
    rw [e] at h
    obtain ⟨h1, h2, h3, h4⟩ := ixN_seq e
    exact ⟨j, h1, h, h2, h3, h4⟩
theorem atI_nat {α : Type} {xs : List α} {j : Nat} {v : α} (h : xs[j]? = some v) : atI xs (j : Int) = some v := by
  have hj : j < xs.length := (List.getElem?_eq_some_iff.mp h).1
  have e : ixN xs.length (j : Int) = some j := by
    unfold ixN
    rw [if_pos (by omega), if_pos (by omega)]; simp
  unfold atI; rw [e]; exact h
def PlainIx (b : Expr) : Prop := ∀ o i, subscripted b false o i = operate [o, i] (getItem o i)
def IxR (X : Cx) (r : R2) : Prop :=
  ∀ (value slice : Expr) (pins : List (Addr × Obj)) (s : Shared) (σ : St) (H : Hp) (x y : V) (v u : Value) (Q : VK), Inv X pins σ H s → RelV x v → RelV y u → r x y H Q →
    subscripted slice false v u = operate [v, u] (getItem v u) → wpAny (model X.prog X.w) X.A (subscriptTail value slice v u) (EP X pins σ Q) X.xe s
def MtR (X : Cx) (id : String) (r : V → List V → Hp → VK → Prop) : Prop :=
  ∀ (pins : List (Addr × Obj)) (s : Shared) (σ : St) (H : Hp) (x : V) (xs : List V) (v : Value) (us : List Value) (Q : VK), Inv X pins σ H s → RelV x v → Vals xs us → r x xs H Q →
    wpAny (model X.prog X.w) X.A (call (.builtin id) (v :: us)) (EP X pins σ Q) X.xe s
section
variable {X : Cx} {a b : Expr} {ta tb : TE} {pos : Pos}
theorem pe_ix {r : R2} (hr : IxR X r) (ha : PE X a ta) (hb : PE X b tb) (hs : PlainIx b) : PE X (.Subscript a b pos) (tOp r ta tb) := by
  intro pins s σ H Q I h
  exact Subscript_ (binT ha hb I h fun v u s2 x y H2 I2 rx ry q => hr a b pins s2 σ H2 x y v u Q I2 rx ry q (hs _ _))
inductive rIxL (K : PySem.W.Frag) (x : V) (y : V) (H : Hp) (Q : VK) : Prop
  | mk (p xs i v) (h1 : x = .ref p) (h2 : y = .int i) (h3 : SqL K H p xs) (h4 : atI xs i = some v) (h5 : Q v H) : rIxL K x y H Q
inductive rIxT (K : PySem.W.Frag) (x : V) (y : V) (H : Hp) (Q : VK) : Prop
  | mk (p xs i v) (h1 : x = .ref p) (h2 : y = .int i) (h3 : SqT K H p xs) (h4 : atI xs i = some v) (h5 : Q v H) : rIxT K x y H Q
theorem ix_list : IxR X (rIxL X.K) := by
  intro value slice pins s σ H x y v u Q I rx ry h hs
  obtain ⟨p, xs, i, z, rfl, rfl, hq, he, q⟩ := h
  cases rx
  obtain ⟨t, rfl⟩ := ry
  obtain ⟨its, r, pl, hz⟩ := I.list hq
  obtain ⟨j, h1, h2, h3, h4, h5⟩ := atI_get he
  obtain ⟨w, ew, rw'⟩ := r.get h2
  have hl := r.length
  have hn := line63
  have fin : EP X pins σ Q w s := ⟨z, H, I, rw', q⟩
  by_cases h0 : 0 ≤ i
  · have hj : i.toNat = j := by
      rw [seqIndex_of h0 h5] at h1
      exact Option.some.inj h1
    exact item_listR pl.isList h0 (by omega) (by rw [hj]; simpa using ew) fin hs
  · have hj : (i + (its.toArray.size : Int)).toNat = j := by
      rw [seqIndex_neg (by omega) h4] at h1
      rw [List.size_toArray, ← hl]
      exact Option.some.inj h1
    exact subscriptTail_builtinR (x := w) pl.isList.typeIs slot_list_getitem.lookup
      (wpAny_getItem_list_neg (Q := fun r s' => r = w ∧ EP X pins σ Q r s') pl.isList (by omega) (by rw [List.size_toArray] <;> omega) (by omega) (by rw [hj]; simpa using ew) ⟨rfl, fin⟩) hs
theorem ix_tup : IxR X (rIxT X.K) := by
  intro value slice pins s σ H x y v u Q I rx ry h hs
  obtain ⟨p, xs, i, z, rfl, rfl, hq, he, q⟩ := h
  cases rx
  obtain ⟨t, rfl⟩ := ry
  obtain ⟨its, r, pl, hz⟩ := I.tuple hq
  obtain ⟨j, h1, h2, h3, h4, h5⟩ := atI_get he
  obtain ⟨w, ew, rw'⟩ := r.get h2
  have hl := r.length
  have hn := line63
  have fin : EP X pins σ Q w s := ⟨z, H, I, rw', q⟩
  exact subscriptTail_builtinR (x := w) pl.typeIs slot_tuple_getitem.lookup
    (getItem_tuple (j := j) (Q := fun r s' => r = w ∧ EP X pins σ Q r s') pl (by omega) (by omega) (by rw [List.size_toArray, ← hl]; exact h1) (by simpa using ew) ⟨rfl, fin⟩) hs
theorem slice_bounds (lo hi : Option Int) (n : Nat) : (sliceBounds lo hi none n).1 = ((HT.sIx n 0 lo : Nat) : Int) ∧ (sliceBounds lo hi none n).2.1 = ((HT.sIx n n hi : Nat) : Int) ∧ (sliceBounds lo hi none n).2.2 = 1 := by
  refine ⟨?_, ?_, rfl⟩
  · cases lo with
    | none => simp [sliceBounds, HT.sIx]
    | some i =>
      simp only [sliceBounds, HT.sIx, Option.getD_none, show (1 : Int) > 0 by decide, if_true]
      by_cases h : i < 0
      · simp only [h, if_true] <;> omega
      · simp only [h, if_false] <;> omega
  · cases hi with
    | none => simp [sliceBounds, HT.sIx]
    | some i =>
      simp only [sliceBounds, HT.sIx, Option.getD_none, show (1 : Int) > 0 by decide, if_true]
      by_cases h : i < 0
      · simp only [h, if_true] <;> omega
      · simp only [h, if_false] <;> omega
theorem slicePick_cut (its : List Value) (lo hi : Option Int) : slicePick its.toArray lo hi none = ((its.drop (HT.sIx its.length 0 lo)).take (HT.sIx its.length its.length hi - HT.sIx its.length 0 lo)).toArray := by
  obtain ⟨h1, h2, h3⟩ := slice_bounds lo hi its.toArray.size
  unfold slicePick
  rw [h1, h2, h3]
  simp only [sliceRange_one, pick_run, List.size_toArray] <;> rfl
inductive rSlL (K : PySem.W.Frag) (x : V) (lo : Option Int) (hi : Option Int) (H : Hp) (Q : VK) : Prop
  | mk (a xs) (h1 : x = .ref a) (h2 : SqL K H a xs) (h3 : ∀ p, H p = none → Q (.ref p) (upd H p (.lst (cutV xs lo hi)))) : rSlL K x lo hi H Q
theorem sl_list : SlR X (rSlL X.K) := by
  intro pins s σ H x v vl vu lo hi sl Q I rx hs pl pu h
  obtain ⟨a, xs, rfl, hx, q⟩ := h
  cases rx
  obtain ⟨its, r, ht, hz⟩ := I.list hx
  have hlen := r.length
  refine ⟨"list", _, slot_list_getitem.lookup, ht.isList.typeIs, ?_⟩
  refine wpAny_getItem_list_slice ht.isList hs pl pu .none (by simp) ?_ (by rw [List.size_toArray] <;> omega)
  rw [slicePick_cut, ← hlen]
  refine ⟨.ref s.heap.objs.size, _, I.laid (t' := s.toks) (o := .lst (cutV xs lo hi)) (fun b ob q => Heap.get?_push_of_some _ q) (Nat.le_refl _) ?_, rfl, q _ (I.hok.fresh (Nat.le_refl _))⟩
  exact ⟨Nat.le_trans (cutV_length xs lo hi) hz, _, 0, (r.drop (HT.sIx xs.length 0 lo)).take (HT.sIx xs.length xs.length hi - HT.sIx xs.length 0 lo), Heap.get?_push_size _ rfl⟩
def flatV : V → Bool
  | .non => true
  | .bl _ => true
  | .int _ => true
  | .str _ => true
  | _ => false
def eqV : V → V → Bool
  | .non, .non => true
  | .bl a, .bl b => a == b
  | .bl a, .int b => (if a then 1 else 0) == b
  | .int a, .bl b => a == (if b then 1 else 0)
  | .int a, .int b => a == b
  | .str a, .str b => a == b
  | _, _ => false
theorem eqAt_V {A : Around} {s : Shared} {y x : V} {u v : Value} (ry : RelV y u) (rx : RelV x v) (fy : flatV y = true) (fx : flatV x = true) : SeqAt.EqAt A s u v (eqV y x) := by
  cases y with
  | non =>
    cases ry
    cases x with
    | non => cases rx; exact SeqAt.EqAt.same _
    | bl b => cases rx; exact SeqAt.EqAt.none_bool b
    | int b => obtain ⟨t, rfl⟩ := rx; exact SeqAt.EqAt.none_int b t
    | str b => obtain ⟨t, rfl⟩ := rx; exact SeqAt.EqAt.none_str b t
    | _ => exact absurd (show false = true from fx) Bool.false_ne_true
  | bl a =>
    cases ry
    cases x with
    | non => cases rx; exact SeqAt.EqAt.bool_none a
    | bl b => cases rx; exact SeqAt.EqAt.bool_bool a b
    | int b => obtain ⟨t, rfl⟩ := rx; exact SeqAt.EqAt.bool_int a b t
    | str b => obtain ⟨t, rfl⟩ := rx; exact SeqAt.EqAt.bool_str a b t
    | _ => exact absurd (show false = true from fx) Bool.false_ne_true
  | int a =>
    obtain ⟨t', rfl⟩ := ry
    cases x with
    | non => cases rx; exact SeqAt.EqAt.int_none a t'
    | bl b => cases rx; exact SeqAt.EqAt.int_bool a t' b
    | int b => obtain ⟨t, rfl⟩ := rx; exact SeqAt.EqAt.int_int a t' b t
    | str b => obtain ⟨t, rfl⟩ := rx; exact SeqAt.EqAt.int_str a t' b t
    | _ => exact absurd (show false = true from fx) Bool.false_ne_true
  | str a =>
    obtain ⟨t', rfl⟩ := ry
    cases x with
    | non => cases rx; exact SeqAt.EqAt.str_none a t'
    | bl b => cases rx; exact SeqAt.EqAt.str_bool a t' b
    | int b => obtain ⟨t, rfl⟩ := rx; exact SeqAt.EqAt.str_int a t' b t
    | str b => obtain ⟨t, rfl⟩ := rx; exact SeqAt.EqAt.str_str a t' b t
    | _ => exact absurd (show false = true from fx) Bool.false_ne_true
  | _ => exact absurd (show false = true from fy) Bool.false_ne_true
def eqU (x : V) (u : Value) : Bool := match u with
  | .none => eqV .non x
  | .bool b => eqV (.bl b) x
  | .int i _ => eqV (.int i) x
  | .str z _ => eqV (.str z) x
  | _ => false
theorem eqU_of {x y : V} {u : Value} (r : RelV y u) (f : flatV y = true) : eqU x u = eqV y x := by
  cases y with
  | non => cases r; rfl
  | bl b => cases r; rfl
  | int i => obtain ⟨t, rfl⟩ := r; rfl
  | str z => obtain ⟨t, rfl⟩ := r; rfl
  | _ => exact absurd (show false = true from f) Bool.false_ne_true
theorem any_eqU {x : V} : ∀ {xs : List V} {us : List Value}, Vals xs us → xs.all flatV = true → us.any (eqU x) = xs.any fun y => eqV y x
  | _, _, .nil, _ => rfl
  | y :: xs, u :: us, .cons r t, f => by
    rw [List.all_cons, Bool.and_eq_true] at f
    rw [List.any_cons, List.any_cons, eqU_of r f.1, any_eqU t f.2]
theorem mem_eqAt {A : Around} {s : Shared} {x : V} {v : Value} (rx : RelV x v) (fx : flatV x = true) : ∀ {xs : List V} {us : List Value}, Vals xs us → xs.all flatV = true → ∀ u ∈ us, SeqAt.EqAt A s u v (eqU x u)
  | _, _, .nil, _ => fun u hu => by cases hu
  | y :: xs, u :: us, .cons r t, f => fun u' hu => by
    rw [List.all_cons, Bool.and_eq_true] at f
    rcases List.mem_cons.mp hu with rfl | hu
    · rw [eqU_of r f.1]; exact eqAt_V r rx f.1 fx
    · exact mem_eqAt rx fx t f.2 u' hu
def inV (x : V) (xs : List V) : Bool := xs.any fun y => eqV y x
inductive rIn (K : PySem.W.Frag) (neg : Bool) (x : V) (y : V) (H : Hp) (Q : VK) : Prop
  | mk (p xs) (h1 : y = .ref p) (h2 : (SqL K H p xs ∨ SqT K H p xs)) (h3 : flatV x = true) (h4 : xs.all flatV = true) (h5 : Q (.bl (if neg then !inV x xs else inV x xs)) H) : rIn K neg x y H Q
theorem op_notIn_seq : OpR X (compareOp .NotIn) (rIn X.K true) := by
  intro pins s σ H x y v u Q I rx ry h
  obtain ⟨p, xs, rfl, hq, fx, fs, q⟩ := h
  cases ry
  rcases hq with hq | hq
  · obtain ⟨its, r, pl, hz⟩ := I.list hq
    refine SeqAt.notIn_listAt (eqU x) pl.isList (fun w hw => mem_eqAt rx fx r fs w (by simpa using hw)) ⟨.bl _, H, I, rfl, ?_⟩
    rw [show its.toArray.any (eqU x) = its.any (eqU x) by simp, any_eqU r fs]
    exact q
  · obtain ⟨its, r, pl, hz⟩ := I.tuple hq
    refine SeqAt.notIn_tupleAt (eqU x) pl (fun w hw => mem_eqAt rx fx r fs w (by simpa using hw)) ⟨.bl _, H, I, rfl, ?_⟩
    rw [show its.toArray.any (eqU x) = its.any (eqU x) by simp, any_eqU r fs]
    exact q
theorem call_len_seq : CallR X (.builtin "len") (fun xs H Q => ∃ p ys, xs = [.ref p] ∧ (SqL X.K H p ys ∨ SqT X.K H p ys) ∧ Q (.int ys.length) H) := by
  intro pins s σ H xs us Q I r h
  obtain ⟨p, ys, rfl, hq, q⟩ := h
  obtain ⟨u, rfl, rx⟩ := vals1 r
  cases rx
  have hn := line63
  rcases hq with hq | hq
  · obtain ⟨its, r', pl, hz⟩ := I.list hq
    have hlen := r'.length
    exact Calls.call_len_list pl.isList (by simp only [List.size_toArray] <;> omega) ⟨.int ys.length, H, I.tok _, ⟨s.toks + 1, by rw [List.size_toArray, hlen]⟩, q⟩
  · obtain ⟨its, r', pl, hz⟩ := I.tuple hq
    have hlen := r'.length
    exact len_tuple pl (by simp only [List.size_toArray] <;> omega) ⟨.int ys.length, H, I.tok _, ⟨s.toks + 1, by rw [List.size_toArray, hlen]⟩, q⟩
theorem call_len_str : CallR X (.builtin "len") (fun xs H Q => ∃ z, xs = [.str z] ∧ z.length ≤ sizeLine ∧ Q (.int z.length) H) := by
  intro pins s σ H xs us Q I r h
  obtain ⟨z, rfl, hz, q⟩ := h
  obtain ⟨u, rfl, t, rfl⟩ := vals1 r
  have hn := line63
  exact len_str (by omega) ⟨.int z.length, H, I.tok _, ⟨_, rfl⟩, q⟩
theorem call_list_of : CallR X (.type "list") (fun xs H Q => ∃ p ys, xs = [.ref p] ∧ (SqL X.K H p ys ∨ SqT X.K H p ys) ∧ ∀ l, H l = none → Q (.ref l) (upd H l (.lst ys))) := by
  intro pins s σ H xs us Q I r h
  obtain ⟨p, ys, rfl, hq, q⟩ := h
  obtain ⟨u, rfl, rx⟩ := vals1 r
  cases rx
  have fin : ∀ (its : List Value), Vals ys its → ys.length ≤ sizeLine → ∀ (h' : Heap) (c' : Nat), (∀ b o', s.heap.get? b = some o' → h'.get? b = some o') →
      h'.get? s.heap.objs.size = some { cls := .type "list", dict := none, data := .seq its.toArray c', slots := #[] } → EP X pins σ Q (.ref s.heap.objs.size) { s with heap := h' } := fun its r' hz h' c' kp e =>
    ⟨.ref s.heap.objs.size, _, I.laid (t' := s.toks) kp (Nat.le_refl _) (show ObjOk X.prog X.w _ h' _ (.lst ys) from ⟨hz, its, c', r', e⟩), rfl, q _ (I.hok.fresh (Nat.le_refl _))⟩
  rcases hq with hq | hq
  · obtain ⟨its, r', pl, hz⟩ := I.list hq
    have hlen := r'.length
    obtain ⟨o, ho, hc, n, hd⟩ := pl.isList
    exact call_list_seq p (.inl rfl) ho hc hd (fun h' c' kp e => fin its r' hz h' c' kp e) (by simp only [List.size_toArray] <;> omega)
  · obtain ⟨its, r', pl, hz⟩ := I.tuple hq
    have hlen := r'.length
    obtain ⟨o, ho, hc, n, hd⟩ := pl
    exact call_list_seq p (.inr rfl) ho hc hd (fun h' c' kp e => fin its r' hz h' c' kp e) (by simp only [List.size_toArray] <;> omega)
def tyV (K : PySem.W.Frag) (T : String) (x : V) (H : Hp) : Prop := match x with
  | .str _ => T = "str"
  | .int _ => T = "int"
  | .ref p => (T = "list" ∧ ∃ xs, SqL K H p xs) ∨ (T = "tuple" ∧ ∃ o, K.lookup p = some o ∧ o.cls = .type "tuple" ∧ o.dict = none) ∨
      (T = "dict" ∧ ((∃ kvs, H p = some (.dK kvs)) ∨ ∃ kvs, H p = some (.dT kvs))) ∨ (T = "set" ∧ ∃ S n, H p = some (.set S n))
  | _ => False
theorem tyV_is {pins : List (Addr × Obj)} {σ : St} {H : Hp} {s : Shared} {T : String} {x : V} {v : Value} (I : Inv X pins σ H s) (r : RelV x v) (ty : tyV X.K T x H) :
    s.TypeIs v T ∧ ∀ a, v = .ref a → ∃ ob, s.heap.get? a = some ob ∧ ob.dict = none := by
  cases x with
  | str z =>
    obtain ⟨t, rfl⟩ := r
    cases (show T = "str" from ty)
    exact ⟨typeIs_str s z t, fun _ e => nomatch e⟩
  | int i =>
    obtain ⟨t, rfl⟩ := r
    cases (show T = "int" from ty)
    exact ⟨typeIs_int s i t, fun _ e => nomatch e⟩
  | ref p =>
    cases r
    rcases ty with ⟨rfl, xs, hq⟩ | ⟨rfl, o, hk, hc, hd⟩ | ⟨rfl, hk⟩ | ⟨rfl, S, n, hk⟩
    · obtain ⟨its, _, pl, _⟩ := I.list hq
      refine ⟨pl.isList.typeIs, fun a e => ?_⟩
      cases e
      obtain ⟨o, n, e, c, hd, _⟩ := pl
      exact ⟨o, e, hd⟩
    · refine ⟨⟨o, I.kIn p o hk, hc⟩, fun a e => ?_⟩
      cases e
      exact ⟨o, I.kIn _ o hk, hd⟩
    · have z : ∃ o, s.heap.get? p = some o ∧ o.ExactDict := by
        rcases hk with ⟨kvs, hk⟩ | ⟨kvs, hk⟩
        · obtain ⟨_, _, _, _, o, _, _, e, ex, _⟩ := I.hok p _ hk
          exact ⟨o, e, ex⟩
        · obtain ⟨_, _, _, _, o, _, _, e, ex, _⟩ := I.hok p _ hk
          exact ⟨o, e, ex⟩
      obtain ⟨o, e, ex⟩ := z
      refine ⟨⟨o, e, ex.1⟩, fun a e2 => ?_⟩
      cases e2
      exact ⟨o, e, ex.2.1⟩
    · obtain ⟨o, _, _, _, e, ex, _⟩ := I.hok p _ hk
      refine ⟨⟨o, e, ex.1⟩, fun a e2 => ?_⟩
      cases e2
      exact ⟨o, e, ex.2.1⟩
  | _ => exact False.elim ty
def tBM0 (K : PySem.W.Frag) (T : String) (r : V → List V → Hp → VK → Prop) (to : TE) : TE := fun σ H Q => to σ H fun x H1 => tyV K T x H1 ∧ r x [] H1 Q
def tBM (K : PySem.W.Frag) (T : String) (r : V → List V → Hp → VK → Prop) (to : TE) (t : TA) : TE := fun σ H Q => to σ H fun x H1 => tyV K T x H1 ∧ t σ H1 fun xs H2 => r x xs H2 Q
variable {o e : Expr} {es : List Expr} {to : TE} {t : TA} {name : Str} {apos cpos : Pos} {T id : String} {r : V → List V → Hp → VK → Prop}
theorem pe_bm0 (pa : PlainAttrs T) (slot : Slot T name id) (hty : typeOf (.builtin id) = pure (.type "method_descriptor")) (hm : MtR X id r) (ho : PE X o to)
    (hbase : attributeBase o name X.env (eval o X.env) = eval o X.env := by rfl) (hline : (apos.endLine == cpos.line) = true := by rfl) : PE X (.Call (.Attribute o name apos) [] [] cpos) (tBM0 X.K T r to) := by
  intro pins s σ H Q I h
  refine wpAny_Call_method0_late hbase hline (thn (ho pins s σ H _ I h) fun v s1 ⟨x, H1, I1, r1, ty, q1⟩ => ?_)
  obtain ⟨h1, h2⟩ := tyV_is I1 r1 ty
  exact ⟨T, id, pa, slot, hty, h1, h2, Calls.callWith_builtin rfl (PySem.evalArgs_none (hm pins s1 σ H1 x [] v [] Q I1 r1 .nil q1))⟩
theorem pe_bm (pa : PlainAttrs T) (slot : Slot T name id) (hty : typeOf (.builtin id) = pure (.type "method_descriptor")) (hm : MtR X id r) (ho : PE X o to) (ha : PA X (e :: es) t)
    (hbase : attributeBase o name X.env (eval o X.env) = eval o X.env := by rfl)
    (hfew : ((backTo cpos (starEach (e :: es) X.env)).all (fun x => !x.1) && (backToKw cpos (keywordEach [] X.env)).all (fun x => x.1.isSome)
      && decide ((e :: es).length + ([] : List Keyword).length + (if ([] : List Keyword).isEmpty then 0 else 1) < 30)) = true := by rfl)
    (hline : (apos.endLine == cpos.line) = true := by rfl) (hs : starEach (e :: es) X.env = (false, eval e X.env) :: starEach es X.env := by rfl) (hplain : (backTo cpos (starEach es X.env)).any (·.1) = false := by rfl) :
    PE X (.Call (.Attribute o name apos) (e :: es) [] cpos) (tBM X.K T r to t) := by
  intro pins s σ H Q I h
  refine wpAny_Call_method_late hbase hfew hline rfl (thn (ho pins s σ H _ I h) fun v s1 ⟨x, H1, I1, r1, ty, q1⟩ => ?_)
  obtain ⟨h1, h2⟩ := tyV_is I1 r1 ty
  refine ⟨T, id, pa, slot, hty, h1, h2, ?_⟩
  have hA := ha cpos pins s1 σ H1 _ I1 q1
  rw [hs] at hA ⊢
  refine Calls.callWith_builtin (by show (false || (backTo cpos (starEach es X.env)).any (·.1)) = false; rw [hplain] <;> rfl) (Calls.evalArgs_plain ?_)
  exact thn hA fun us s2 ⟨vs, H2, I2, r2, q2⟩ => hm pins s2 σ H2 x vs v us Q I2 r1 r2 q2
end
end L2
namespace L2
open PySem PySem.Spec PyProof.Rows
def MtM (X : Cx) (id : String) (r : V → List V → Hp → VK → Prop) : Prop :=
  ∀ (pins : List (Addr × Obj)) (s : Shared) (σ : St) (H : Hp) (x : V) (xs : List V) (v : Value) (us : List Value) (Q : VK), Inv X pins σ H s → RelV x v → Vals xs us → r x xs H Q →
    wpAny (model X.prog X.w) X.A (call (.builtin id) (v :: us)) (EP X pins σ Q) X.xe s
theorem Vals.one : ∀ {x : V} {us : List Value}, Vals [x] us → ∃ u, us = [u] ∧ RelV x u
  | _, _, .cons r .nil => ⟨_, rfl, r⟩
theorem Vals.zero : ∀ {us : List Value}, Vals [] us → us = []
  | _, .nil => rfl
theorem Vals.dropLast {xs : List V} {us : List Value} (h : Vals xs us) : Vals xs.dropLast us.dropLast := by
  induction h with
  | nil => exact .nil
  | cons r t ih =>
    cases t with
    | nil => exact .nil
    | cons q t' => exact .cons r ih
theorem Vals.reverse {xs : List V} {us : List Value} (h : Vals xs us) : Vals xs.reverse us.reverse := by
  induction h with
  | nil => exact .nil
  | cons r t ih => rw [List.reverse_cons, List.reverse_cons]; exact Vals.append ih (.cons r .nil)
theorem Vals.rep {xs : List V} {us : List Value} (h : Vals xs us) : ∀ k : Nat, Vals (List.replicate k xs).flatten (List.replicate k us).flatten
  | 0 => .nil
  | k + 1 => by
    rw [List.replicate_succ, List.replicate_succ, List.flatten_cons, List.flatten_cons]
    exact Vals.append h (Vals.rep h k)
theorem erase_last {α : Type} (l : List α) : l.eraseIdx (l.length - 1) = l.dropLast := by
  induction l with
  | nil => rfl
  | cons a r ih =>
    cases r with
    | nil => rfl
    | cons b r =>
      have e : (a :: b :: r).length - 1 = ((b :: r).length - 1) + 1 := by
        have h1 : (a :: b :: r).length = r.length + 2 := rfl
        have h2 : (b :: r).length = r.length + 1 := rfl
        omega
      rw [e, List.eraseIdx_cons_succ, ih]
      all_goals rfl
theorem foldl_rep (its : List Value) : ∀ (k : Nat) (acc : List Value),
    List.foldl (fun x1 x2 => x1 ++ x2) acc.toArray (List.replicate k its.toArray) = (acc ++ (List.replicate k its).flatten).toArray
  | 0, acc => by simp
  | k + 1, acc => by
    have e : acc.toArray ++ its.toArray = (acc ++ its).toArray := by simp
    have e2 : (acc ++ its) ++ (List.replicate k its).flatten = acc ++ (List.replicate (k + 1) its).flatten := by
      rw [List.replicate_succ, List.flatten_cons, List.append_assoc]
    rw [← e2, ← foldl_rep its k (acc ++ its), ← e, List.replicate_succ, List.foldl_cons]
section
variable {X : Cx} {pins : List (Addr × Obj)} {σ : St} {H : Hp} {s : Shared} {l b : Addr} {xs ys zs : List V}
theorem Inv.lset {its its' : List Value} {n : Nat} {f : Array Value → Array Value} {t' : Nat} (I : Inv X pins σ H s) (hH : H l = some (.lst xs))
    (e : s.heap.get? l = some { cls := .type "list", data := .seq its.toArray n }) (hf : f its.toArray = its'.toArray) (hv : Vals ys its') (hz : ys.length ≤ sizeLine) :
    Inv X pins σ (upd H l (.lst ys)) { s with heap := s.heap.update l (Obj.mapSeq f), toks := t' } := by
  have q := PySem.IsL.update e f
  rw [hf] at q
  refine I.write (x := l) (e := l) (by rw [hH]; exact trivial) (.inl rfl) (fun b' u hb hu => (Heap.get?_update_other s.heap (Obj.mapSeq f) (Ne.symm hb)).trans hu) ⟨_, q⟩ ?_
  exact ⟨hz, its', _, hv, q⟩
theorem Inv.lnew {its : List Value} {t' : Nat} (I : Inv X pins σ H s) (hv : Vals ys its) (hz : ys.length ≤ sizeLine) :
    Inv X pins σ (upd H s.heap.objs.size (.lst ys)) { s with heap := s.heap.push { cls := .type "list", data := .seq its.toArray }, toks := t' } :=
  I.laid (fun _ _ q => Heap.get?_push_of_some _ q) (Nat.le_refl _) ⟨hz, its, 0, hv, Heap.get?_push_size _ rfl⟩
theorem Inv.fresh (I : Inv X pins σ H s) : H s.heap.objs.size = none := I.hok.fresh (Nat.le_refl _)
theorem Inv.lstM (I : Inv X pins σ H s) (hH : H l = some (.lst xs)) : xs.length ≤ sizeLine ∧ ∃ (its : List Value) (n : Nat), Vals xs its ∧ xs.length = its.length ∧ s.heap.get? l = some { cls := .type "list", data := .seq its.toArray n } := by
  obtain ⟨z, its, n, r, e⟩ := I.hok l _ hH
  exact ⟨z, its, n, r, r.length, e⟩
theorem notLongL {n : Nat} (h : n ≤ sizeLine) : Builtin.List.listTooLong n = false := by
  unfold Builtin.List.listTooLong
  exact decide_eq_false (by omega)
end
section
variable {X : Cx}
inductive rAppend (x : V) (vs : List V) (H : Hp) (Q : VK) : Prop
  | mk (l xs y) (h1 : x = .ref l) (h2 : vs = [y]) (h3 : H l = some (.lst xs)) (h4 : xs.length < sizeLine) (h5 : Q .non (upd H l (.lst (xs ++ [y])))) : rAppend x vs H Q
theorem mt_append : MtM X "list.append" rAppend := by
  intro pins s σ H x vs v us Q I rx rv h
  obtain ⟨l, xs, y, rfl, rfl, hH, hz, q⟩ := h
  cases rx
  obtain ⟨u, rfl, ru⟩ := rv.one
  obtain ⟨z, its, n, r, hl, e⟩ := I.lstM hH
  refine call_meets F.slot_list_append ⟨_, e, rfl⟩ F.entry_list_append (F.args_list_append_2 _ _) (PySem.list_append l its.toArray n u (by rw [List.size_toArray]; omega)) ⟨e, ?_⟩
  refine ⟨.non, _, I.lset (its' := its ++ [u]) hH e (by simp) (r.append (.cons ru .nil)) ?_, rfl, q⟩
  rw [List.length_append, List.length_singleton]
  omega
def rExtend : V → List V → Hp → VK → Prop := fun x vs H Q => ∃ l b xs zs, x = .ref l ∧ vs = [.ref b] ∧ H l = some (.lst xs) ∧ H b = some (.lst zs) ∧ xs.length + zs.length ≤ sizeLine ∧ Q .non (upd H l (.lst (xs ++ zs)))
theorem mt_extend : MtM X "list.extend" rExtend := by
  intro pins s σ H x vs v us Q I rx rv h
  obtain ⟨l, b, xs, zs, rfl, rfl, hH, hB, hz, q⟩ := h
  cases rx
  obtain ⟨u, rfl, ru⟩ := rv.one
  cases ru
  obtain ⟨z, its, n, r, hl, e⟩ := I.lstM hH
  obtain ⟨z2, its2, n2, r2, hl2, e2⟩ := I.lstM hB
  have hsz : its.toArray.size + its2.toArray.size ≤ sizeLine := by rw [List.size_toArray, List.size_toArray]; omega
  have hlong : ¬ (!its.toArray.isEmpty && Builtin.List.listTooLong (its.toArray.size + its2.toArray.size)) = true := by
    rw [notLongL hsz, Bool.and_false]
    exact Bool.false_ne_true
  refine call_meets F.slot_list_extend ⟨_, e, rfl⟩ F.entry_list_extend (F.args_list_extend_2 _ _)
    (AutoSeq1.list_extend_list_list_0 l its.toArray n b its2.toArray n2 hlong (by rw [List.size_toArray]; omega) (by omega)) ⟨e, e2, ?_⟩
  refine ⟨.non, _, I.lset (its' := its ++ its2) hH e (by simp) (r.append r2) ?_, rfl, q⟩
  rw [List.length_append]
  omega
def rPop : V → List V → Hp → VK → Prop := fun x vs H Q => ∃ l xs y, x = .ref l ∧ vs = [] ∧ H l = some (.lst xs) ∧ xs[xs.length - 1]? = some y ∧ Q y (upd H l (.lst xs.dropLast))
theorem mt_pop : MtM X "list.pop" rPop := by
  intro pins s σ H x vs v us Q I rx rv h
  obtain ⟨l, xs, y, rfl, rfl, hH, hy, q⟩ := h
  cases rx
  have hus := rv.zero
  subst hus
  obtain ⟨z, its, n, r, hl, e⟩ := I.lstM hH
  obtain ⟨u, hu, ru⟩ := r.get hy
  have hy' : its.toArray[its.toArray.size - 1]? = some u := by
    show its.toArray[its.length - 1]? = some u
    rw [← Array.getElem?_toList, ← hl]
    exact hu
  refine call_meets F.slot_list_pop ⟨_, e, rfl⟩ F.entry_list_pop (F.args_list_pop_1 _) (MeetsSeq.list_pop_last l its.toArray n u hy' (by rw [List.size_toArray]; omega)) ⟨e, ?_⟩
  refine ⟨y, _, I.lset (its' := its.dropLast) hH e ?_ r.dropLast ?_, ru, q⟩
  · show its.toArray.eraseIdxIfInBounds (its.toArray.size - 1) = its.dropLast.toArray
    rw [List.size_toArray, List.eraseIdxIfInBounds_toArray, erase_last]
  · rw [List.length_dropLast]
    omega
inductive rCat (x : V) (y : V) (H : Hp) (Q : VK) : Prop
  | mk (l b xs zs) (h1 : x = .ref l) (h2 : y = .ref b) (h3 : H l = some (.lst xs)) (h4 : H b = some (.lst zs)) (h5 : xs.length + zs.length ≤ sizeLine) (h6 : ∀ p, H p = none → Q (.ref p) (upd H p (.lst (xs ++ zs)))) : rCat x y H Q
theorem op_cat : OpR X (binaryOp .Add) rCat := by
  intro pins s σ H x y v u Q I rx ry h
  obtain ⟨l, b, xs, zs, rfl, rfl, hH, hB, hz, q⟩ := h
  cases rx
  cases ry
  obtain ⟨z, its, n, r, hl, e⟩ := I.lstM hH
  obtain ⟨z2, its2, n2, r2, hl2, e2⟩ := I.lstM hB
  refine PySem.P.add_list e e2 ?_ (by rw [List.size_toArray, List.size_toArray]; omega)
  have ea : its.toArray ++ its2.toArray = (its ++ its2).toArray := by simp
  rw [ea]
  exact ⟨.ref _, _, I.lnew (t' := s.toks) (r.append r2) (by rw [List.length_append]; omega), rfl, q _ I.fresh⟩
def rRep : R2 := fun x y H Q => ∃ l k xs, x = .ref l ∧ y = .int k ∧ H l = some (.lst xs) ∧ -(2 ^ 63) ≤ k ∧ k < 2 ^ 63 ∧ xs.length * k.toNat ≤ sizeLine ∧
  ∀ p, H p = none → Q (.ref p) (upd H p (.lst (List.replicate k.toNat xs).flatten))
theorem len_rep {α : Type} (xs : List α) (k : Nat) : (List.replicate k xs).flatten.length = k * xs.length := by
  induction k with
  | zero => simp
  | succ k ih => rw [List.replicate_succ, List.flatten_cons, List.length_append, ih, Nat.succ_mul, Nat.add_comm]
theorem op_rep : OpR X (binaryOp .Mult) rRep := by
  intro pins s σ H x y v u Q I rx ry h
  obtain ⟨l, k, xs, rfl, rfl, hH, h1, h2, hz, q⟩ := h
  cases rx
  obtain ⟨t, rfl⟩ := ry
  obtain ⟨z, its, n, r, hl, e⟩ := I.lstM hH
  have hlen : its.toArray.size * k.toNat ≤ sizeLine := by rw [List.size_toArray, ← hl]; exact hz
  have hcap : ¬ its.toArray.size * k.toNat > (2 ^ 63 - 1) / 8 := by
    have : (sizeLine : Nat) ≤ (2 ^ 63 - 1) / 8 := by decide
    omega
  have hfit : ¬ (!Builtin.List.listFitsIndex k) = true := by
    rw [fitsIndex_both h1 h2]
    exact Bool.false_ne_true
  have hlong : ¬ Builtin.List.listTooLong (its.toArray.size * k.toNat) = true := by
    rw [notLongL hlen]
    exact Bool.false_ne_true
  have hnew : List.foldl (fun x1 x2 => x1 ++ x2) #[] (List.replicate (if its.toArray.isEmpty = true then 0 else k.toNat) its.toArray) = (List.replicate k.toNat its).flatten.toArray := by
    have f0 : ∀ m : Nat, List.foldl (fun x1 x2 => x1 ++ x2) #[] (List.replicate m its.toArray) = (List.replicate m its).flatten.toArray := fun m => by
      have := foldl_rep its m []
      rw [List.nil_append] at this
      exact this
    rw [f0]
    cases its with
    | nil => simp
    | cons a r' => rw [if_neg (by simp)]
  refine wpAny_binaryOp_repeat_ref (T := "list") (U := "int") (by decide) ⟨_, e, rfl⟩ (fun s' => typeIs_int s' k t) noFill_list_mul F.fills_int_mul F.slot_int_rmul repeat_list F.slot_int_index.lookup
    (call_meets F.slot_int_rmul (typeIs_int s k t) F.entry_int_rmul (F.args_int_rmul_2 _ _) (int___rmul___int_list k t l its.toArray n)
      ⟨e, rfl, ⟨_, e, rfl⟩, call_meets F.slot_list_mul ⟨_, e, rfl⟩ F.entry_list_mul (F.args_list_mul_2 _ _) (AutoListH.list___mul___list_int_3 l its.toArray n k t hfit hcap hlong) ⟨e, ?_⟩⟩)
  rw [hnew]
  exact ⟨.ref _, _, I.lnew (t' := s.toks) (r.rep k.toNat) (by rw [len_rep, Nat.mul_comm]; exact hz), rfl, q _ I.fresh⟩
end
section
variable {prog : Program} {w : World} {A : Around} {E : Value → Shared → Prop} {s : Shared}
end
section
variable {X : Cx}
end
end L2
namespace L2
open PySem PySem.Spec PyProof.Rows
section
variable {κ : Type} [DecidableEq κ]
def valV (kvs : List (κ × V)) (k : κ) : Option V := (kvs.find? fun kv => decide (kv.1 = k)).map (·.2)
def putK (kvs : List (κ × V)) (k : κ) (v : V) : List (κ × V) :=
  if (kvs.any fun kv => decide (kv.1 = k)) = true then kvs.map (fun kv => if kv.1 = k then (kv.1, v) else kv) else kvs ++ [(k, v)]
def dropK (kvs : List (κ × V)) (k : κ) : List (κ × V) := kvs.filter fun kv => decide (kv.1 ≠ k)
theorem valV_nil {k : κ} : valV ([] : List (κ × V)) k = none := rfl
theorem valV_pos {p : κ × V} {r : List (κ × V)} {k : κ} (e : p.1 = k) : valV (p :: r) k = some p.2 := by simp [valV, List.find?_cons, e]
theorem valV_neg {p : κ × V} {r : List (κ × V)} {k : κ} (e : ¬ p.1 = k) : valV (p :: r) k = valV r k := by simp [valV, List.find?_cons, e]
theorem valV_any (k : κ) : ∀ kvs : List (κ × V), (kvs.any fun kv => decide (kv.1 = k)) = (valV kvs k).isSome
  | [] => rfl
  | p :: r => by
    rw [List.any_cons]
    by_cases e : p.1 = k
    · simp only [valV_pos e, decide_eq_true e, Bool.true_or, Option.isSome_some]
    · rw [valV_neg e, decide_eq_false e, Bool.false_or]; exact valV_any k r
theorem valV_map (k j : κ) (y : V) : ∀ kvs : List (κ × V), valV (kvs.map fun kv => if kv.1 = k then (kv.1, y) else kv) j = (valV kvs j).map fun x => if j = k then y else x
  | [] => rfl
  | p :: r => by
    have ih := valV_map k j y r
    rw [List.map_cons]
    by_cases h : p.1 = k
    · rw [if_pos h]
      by_cases e : p.1 = j
      · rw [valV_pos (p := (p.1, y)) e, valV_pos e, Option.map_some, if_pos (e.symm.trans h)]
      · rw [valV_neg (p := (p.1, y)) e, valV_neg e, ih]
    · rw [if_neg h]
      by_cases e : p.1 = j
      · rw [valV_pos (p := p) e, valV_pos e, Option.map_some, if_neg (fun z => h (e.trans z))]
      · rw [valV_neg (p := p) e, valV_neg e, ih]
theorem valV_snoc (k j : κ) (y : V) : ∀ kvs : List (κ × V), valV kvs k = none → valV (kvs ++ [(k, y)]) j = if j = k then some y else valV kvs j
  | [], _ => by
    by_cases e : k = j
    · rw [if_pos e.symm]; exact valV_pos (p := (k, y)) e
    · rw [if_neg (fun z => e z.symm)]; exact valV_neg (p := (k, y)) e
  | p :: r, hn => by
    rw [List.cons_append]
    have hk : ¬ p.1 = k := fun z => by rw [valV_pos z] at hn; cases hn
    rw [valV_neg hk] at hn
    have ih := valV_snoc k j y r hn
    by_cases e : p.1 = j
    · rw [valV_pos e, valV_pos e, if_neg (fun z => hk (e.trans z))]
    · rw [valV_neg e, valV_neg e, ih]
theorem valV_put (kvs : List (κ × V)) (k j : κ) (y : V) : valV (putK kvs k y) j = if j = k then some y else valV kvs j := by
  unfold putK
  by_cases a : (kvs.any fun kv => decide (kv.1 = k)) = true
  · rw [if_pos a, valV_map]
    rw [valV_any] at a
    by_cases e : j = k
    · obtain ⟨x, hx⟩ := Option.isSome_iff_exists.mp a
      rw [if_pos e, e, hx, Option.map_some, if_pos rfl]
    · rw [if_neg e]
      cases valV kvs j with
      | none => rfl
      | some x => rw [Option.map_some, if_neg e]
  · rw [if_neg a]
    refine valV_snoc k j y kvs ?_
    rw [valV_any] at a
    cases q : valV kvs k with
    | none => rfl
    | some x => rw [q] at a; exact (a rfl).elim
theorem length_putK (kvs : List (κ × V)) (k : κ) (v : V) : (putK kvs k v).length ≤ kvs.length + 1 := by
  unfold putK
  split
  · rw [List.length_map]; omega
  · rw [List.length_append, List.length_cons, List.length_nil]; omega
theorem RelO.isSome_eq {o : Option V} {u : Option Value} (r : RelO o u) : o.isSome = u.isSome := by
  cases o with
  | none => cases u with
    | none => rfl
    | some _ => exact (show False from r).elim
  | some _ => cases u with
    | none => exact (show False from r).elim
    | some _ => rfl
theorem RelO.getD {o : Option V} {u : Option Value} {d : V} {d' : Value} (r : RelO o u) (rd : RelV d d') : RelV (o.getD d) (u.getD d') := by
  cases o with
  | none => cases u with
    | none => exact rd
    | some _ => exact (show False from r).elim
  | some _ => cases u with
    | none => exact (show False from r).elim
    | some _ => exact r
theorem KV.val {kvs : List (κ × V)} {vs : List (κ × Value)} (r : KV kvs vs) (k : κ) : RelO (valV kvs k) (valueAt vs k) := by
  unfold KV at r
  induction r with
  | nil => exact True.intro
  | @cons p q ps qs h t ih =>
    obtain ⟨h1, h2⟩ := h
    by_cases e : p.1 = k
    · have e' : q.1 = k := h1.symm.trans e
      have b : valueAt (q :: qs) k = some q.2 := by simp [valueAt, List.find?_cons, e']
      rw [valV_pos e, b]; exact h2
    · have e' : ¬ q.1 = k := fun z => e (h1.trans z)
      have b : valueAt (q :: qs) k = valueAt qs k := by simp [valueAt, List.find?_cons, e']
      rw [valV_neg e, b]; exact ih
theorem KV.any {kvs : List (κ × V)} {vs : List (κ × Value)} (r : KV kvs vs) (k : κ) : (kvs.any fun kv => decide (kv.1 = k)) = vs.any fun kv => decide (kv.1 = k) := by
  unfold KV at r
  induction r with
  | nil => rfl
  | cons h t ih => rw [List.any_cons, List.any_cons, ih, h.1]
theorem KV.repl {kvs : List (κ × V)} {vs : List (κ × Value)} (r : KV kvs vs) (k : κ) {y : V} {u : Value} (ry : RelV y u) :
    KV (kvs.map fun kv => if kv.1 = k then (kv.1, y) else kv) (vs.map fun kv => if kv.1 = k then (kv.1, u) else kv) := by
  unfold KV at r ⊢
  induction r with
  | nil => exact .nil
  | @cons p q ps qs h t ih =>
    rw [List.map_cons, List.map_cons]
    refine .cons ?_ ih
    obtain ⟨h1, h2⟩ := h
    by_cases e : p.1 = k
    · rw [if_pos e, if_pos (h1.symm.trans e)]; exact ⟨h1, ry⟩
    · rw [if_neg e, if_neg (fun z => e (h1.trans z))]; exact ⟨h1, h2⟩
theorem KV.put {kvs : List (κ × V)} {vs : List (κ × Value)} (r : KV kvs vs) (k : κ) {y : V} {u : Value} (ry : RelV y u) : KV (putK kvs k y) (stored vs k u) := by
  unfold putK stored
  rw [r.any k]
  by_cases e : (vs.any fun kv => decide (kv.1 = k)) = true
  · rw [if_pos e, if_pos e]; exact r.repl k ry
  · rw [if_neg e, if_neg e]; exact Paired.snoc r ⟨rfl, ry⟩
theorem KV.drop {kvs : List (κ × V)} {vs : List (κ × Value)} (r : KV kvs vs) (k : κ) : KV (dropK kvs k) (without vs k) := by
  unfold KV at r ⊢
  unfold dropK without
  induction r with
  | nil => exact .nil
  | @cons p q ps qs h t ih =>
    obtain ⟨h1, h2⟩ := h
    rw [List.filter_cons, List.filter_cons]
    by_cases e : p.1 = k
    · have a : ¬ decide (p.1 ≠ k) = true := by simp [e]
      have b : ¬ decide (q.1 ≠ k) = true := by simp [h1.symm.trans e]
      rw [if_neg a, if_neg b]; exact ih
    · have e' : ¬ q.1 = k := fun z => e (h1.trans z)
      have a : decide (p.1 ≠ k) = true := by simp [e]
      have b : decide (q.1 ≠ k) = true := by simp [e']
      rw [if_pos a, if_pos b]; exact .cons ⟨h1, h2⟩ ih
theorem KV.length {kvs : List (κ × V)} {vs : List (κ × Value)} (r : KV kvs vs) : kvs.length = vs.length := Paired.length r
theorem dropK_le (kvs : List (κ × V)) (k : κ) : (dropK kvs k).length ≤ kvs.length := List.length_filter_le _ _
end
theorem kV_is {P : Program} {w : World} {k : Key} {u : Value} (r : RelV (kV k) u) : (mixKind P w).is k u = true := by
  cases k with
  | inl i => obtain ⟨t, e⟩ := (show ∃ t, u = Value.int i t from r); subst e; exact mixKind_int P w i t
  | inr x => obtain ⟨t, e⟩ := (show ∃ t, u = Value.str x t from r); subst e; exact mixKind_str P w x t
theorem items_are {P : Program} {w : World} : ∀ {ks : List Key} {us : List Value}, Vals (ks.map kV) us → ItemsAre (mixKind P w) ks us
  | [], _, r => by rw [List.map_nil] at r; cases r; exact .nil
  | k :: ks, _, r => by
    rw [List.map_cons] at r
    cases r with
    | cons h t => exact .cons (kV_is h) (items_are t)
abbrev KT (H : Hp) : List (List Key × V) → List (List Key × Addr × Value) → Prop := Paired fun p q => p.1 = q.1 ∧ H q.2.1 = some (.tup (p.1.map kV)) ∧ RelV p.2 q.2.2
theorem KT.val {H : Hp} {kvs : List (List Key × V)} {xs : List (List Key × Addr × Value)} (r : KT H kvs xs) (k : List Key) : RelO (valV kvs k) ((atKey xs k).map (·.2)) := by
  induction r with
  | nil => exact True.intro
  | @cons p q ps qs h t ih =>
    obtain ⟨h1, _, h2⟩ := h
    by_cases e : p.1 = k
    · have e' : q.1 = k := h1.symm.trans e
      have b : atKey (q :: qs) k = some q.2 := by simp [atKey, List.find?_cons, e']
      rw [valV_pos e, b]; exact h2
    · have e' : ¬ q.1 = k := fun z => e (h1.trans z)
      have b : atKey (q :: qs) k = atKey qs k := by simp [atKey, List.find?_cons, e']
      rw [valV_neg e, b]; exact ih
theorem KT.repl {H : Hp} {kvs : List (List Key × V)} {xs : List (List Key × Addr × Value)} (r : KT H kvs xs) (k : List Key) {y : V} {u : Value} (ry : RelV y u) :
    KT H (kvs.map fun kv => if kv.1 = k then (kv.1, y) else kv) (xs.map (putAt k u)) := by
  induction r with
  | nil => exact .nil
  | @cons p q ps qs h t ih =>
    rw [List.map_cons, List.map_cons]
    refine .cons ?_ ih
    obtain ⟨h1, h2, h3⟩ := h
    unfold putAt
    by_cases e : p.1 = k
    · rw [if_pos e, if_pos (h1.symm.trans e)]; exact ⟨h1, h2, ry⟩
    · rw [if_neg e, if_neg (fun z => e (h1.trans z))]; exact ⟨h1, h2, h3⟩
theorem KT.put {H : Hp} {kvs : List (List Key × V)} {xs : List (List Key × Addr × Value)} (r : KT H kvs xs) (k : List Key) {b : Addr} {y : V} {u : Value} (hb : H b = some (.tup (k.map kV))) (ry : RelV y u) :
    KT H (putK kvs k y) (storedH xs k b u) := by
  have e : (kvs.any fun kv => decide (kv.1 = k)) = (atKey xs k).isSome := by
    rw [valV_any, (r.val k).isSome_eq, Option.isSome_map]
  unfold putK storedH
  rw [e]
  by_cases q : (atKey xs k).isSome = true
  · rw [if_pos q, if_pos q]; exact r.repl k ry
  · rw [if_neg q, if_neg q]; exact Paired.snoc r ⟨rfl, hb, ry⟩
theorem KT.keeps {H H' : Hp} {kvs : List (List Key × V)} {xs : List (List Key × Addr × Value)} (r : KT H kvs xs) (ht : ∀ b ys, H b = some (.tup ys) → H' b = some (.tup ys)) : KT H' kvs xs :=
  Paired.mapP r fun _ _ z => ⟨z.1, ht _ _ z.2.1, z.2.2⟩
section
variable {P : Program} {w : World} {H : Hp} {h : Heap} {a : Addr}
theorem rd_of {u : HO} (ok : HOk P w H h) (e : Rd H a u) : ObjOk P w H h a u := e.ok ok
theorem dk_rd {kvs : List (Key × V)} (ok : HOk P w H h) (e : Rd H a (.dK kvs)) : kvs.length ≤ sizeLine ∧ (a == sysModules) = false ∧ ∃ vs, KV kvs vs ∧ h.DictOf (mixKind P w) a vs :=
  show ObjOk P w H h a (.dK kvs) from rd_of ok e
theorem dk_of {kvs : List (Key × V)} (ok : HOk P w H h) (e : H a = some (.dK kvs)) : kvs.length ≤ sizeLine ∧ (a == sysModules) = false ∧ ∃ vs, KV kvs vs ∧ h.DictOf (mixKind P w) a vs := dk_rd ok (.inl e)
theorem key_of {ks : List Key} (ok : HOk P w H h) (e : H a = some (.tup (ks.map kV))) : (tupleKind (mixKind P w)).is h ks a := by
  obtain ⟨_, its, r, o, h1, h2, n, h3⟩ := (show ObjOk P w H h a (.tup (ks.map kV)) from ok a _ e)
  exact ⟨o, its.toArray, n, h1, h2, h3, by simpa using items_are r⟩
theorem dt_rd {kvs : List (List Key × V)} (ok : HOk P w H h) (e : Rd H a (.dT kvs)) : kvs.length ≤ sizeLine ∧ (a == sysModules) = false ∧
    ∃ xs, KT H kvs xs ∧ h.DictOfH (tupleKind (mixKind P w)) a xs := by
  obtain ⟨z, y, xs, r, o, es, ep, h1, h2, h3, h4, h5⟩ := (show ObjOk P w H h a (.dT kvs) from rd_of ok e)
  refine ⟨z, y, xs, r, o, es, ep, h1, h2, h3, h4, fun x hx => ?_, h5⟩
  have all : ∀ {l : List (List Key × V)} {m : List (List Key × Addr × Value)}, KT H l m → ∀ x ∈ m, (tupleKind (mixKind P w)).is h x.1 x.2.1 := by
    intro l m q
    induction q with
    | nil => intro x hx; exact nomatch hx
    | @cons p q ps qs hq t ih =>
      intro x hx
      rcases List.mem_cons.mp hx with e | hx
      · subst e
        exact key_of ok (by rw [← hq.1]; exact hq.2.1)
      · exact ih x hx
  exact all r x hx
theorem dt_of {kvs : List (List Key × V)} (ok : HOk P w H h) (e : H a = some (.dT kvs)) : kvs.length ≤ sizeLine ∧ (a == sysModules) = false ∧
    ∃ xs, KT H kvs xs ∧ h.DictOfH (tupleKind (mixKind P w)) a xs := dt_rd ok (.inl e)
end
def DGet (H : Hp) (a : Addr) (y : V) (r : Option V) : Prop :=
  (∃ kvs k, Rd H a (.dK kvs) ∧ y = kV k ∧ r = valV kvs k) ∨ ∃ kvs k b, Rd H a (.dT kvs) ∧ y = .ref b ∧ H b = some (.tup (k.map kV)) ∧ r = valV kvs k
def DPut (H : Hp) (a : Addr) (y v : V) (H' : Hp) : Prop :=
  (∃ kvs k, H a = some (.dK kvs) ∧ y = kV k ∧ kvs.length < sizeLine ∧ H' = upd H a (.dK (putK kvs k v))) ∨
  ∃ kvs k b, H a = some (.dT kvs) ∧ y = .ref b ∧ H b = some (.tup (k.map kV)) ∧ kvs.length < sizeLine ∧ H' = upd H a (.dT (putK kvs k v))
theorem DGet.k {H : Hp} {a : Addr} {kvs : List (Key × V)} {k : Key} (e : H a = some (.dK kvs)) : DGet H a (kV k) (valV kvs k) := .inl ⟨kvs, k, .inl e, rfl, rfl⟩
theorem DGet.t {H : Hp} {a b : Addr} {kvs : List (List Key × V)} {k : List Key} (e : H a = some (.dT kvs)) (eb : H b = some (.tup (k.map kV))) : DGet H a (.ref b) (valV kvs k) := .inr ⟨kvs, k, b, .inl e, rfl, eb, rfl⟩
theorem DPut.k {H : Hp} {a : Addr} {kvs : List (Key × V)} {k : Key} {v : V} (e : H a = some (.dK kvs)) (hl : kvs.length < sizeLine) : DPut H a (kV k) v (upd H a (.dK (putK kvs k v))) := .inl ⟨kvs, k, e, rfl, hl, rfl⟩
theorem DPut.t {H : Hp} {a b : Addr} {kvs : List (List Key × V)} {k : List Key} {v : V} (e : H a = some (.dT kvs)) (eb : H b = some (.tup (k.map kV))) (hl : kvs.length < sizeLine) :
    DPut H a (.ref b) v (upd H a (.dT (putK kvs k v))) := .inr ⟨kvs, k, b, e, rfl, eb, hl, rfl⟩
section
variable {X : Cx} {pins : List (Addr × Obj)} {σ : St} {H : Hp} {s : Shared} {a : Addr} {y v : V} {u r : Value} {o : Option V} {A : Around} {E : Value → Shared → Prop}
theorem Inv.big (I : Inv X pins σ H s) : sysModules < s.heap.objs.size := by
  have h : mainGlobals < s.heap.objs.size := (I.mod.glob.keeps I.bk).lt
  exact Nat.lt_trans (by decide) h
theorem d_getItem {Q : Value → Shared → Prop} (hu : A.units + 1 < cLine) (I : Inv X pins σ H s) (g : DGet H a y (some v)) (ry : RelV y u) (h : ∀ w' s', Inv X pins σ H s' → RelV v w' → Q w' s') :
    wpAny (model X.prog X.w) A (getItem (.ref a) u) Q E s := by
  rcases g with ⟨kvs, k, e, ey, l⟩ | ⟨kvs, k, b, e, ey, eb, l⟩
  · subst ey
    obtain ⟨z, hd, vs, rel, dd⟩ := dk_rd I.hok e
    obtain ⟨w', hw, rw'⟩ := RelO.some_of (v := v) (o := valueAt vs k) (by rw [l]; exact rel.val k)
    exact wpAny_getItem_of (kV_is ry) dd.mapOf hw (h w' _ (I.tok _) rw')
  · subst ey
    cases (show u = Value.ref b from ry)
    obtain ⟨z, hd, xs, rel, dd⟩ := dt_rd I.hok e
    obtain ⟨w', hw, rw'⟩ := RelO.some_of (v := v) (o := (atKey xs k).map (·.2)) (by rw [l]; exact rel.val k)
    obtain ⟨p, hp, hp2⟩ := Option.map_eq_some_iff.mp hw
    refine wpAny_getItem_heap (tupleKind_room_in1 hu) (key_of I.hok eb) dd hp ?_
    rw [hp2]
    exact h w' _ (I.tok _) rw'
theorem d_in {Q : Value → Shared → Prop} (hu : A.units + 1 < cLine) (I : Inv X pins σ H s) (g : DGet H a y o) (ry : RelV y u) (h : ∀ s', Inv X pins σ H s' → Q (.bool o.isSome) s') :
    wpAny (model X.prog X.w) A (compareOp .In u (.ref a)) Q E s := by
  rcases g with ⟨kvs, k, e, ey, l⟩ | ⟨kvs, k, b, e, ey, eb, l⟩
  · subst ey
    obtain ⟨z, hd, vs, rel, dd⟩ := dk_rd I.hok e
    refine wpAny_in_of (kV_is ry) hd dd.mapOf ?_
    rw [← (rel.val k).isSome_eq, ← l]
    exact h _ (I.tok _)
  · subst ey
    cases (show u = Value.ref b from ry)
    obtain ⟨z, hd, xs, rel, dd⟩ := dt_rd I.hok e
    refine wpAny_in_heap (tupleKind_room_in1 hu) (key_of I.hok eb) hd dd ?_
    have q := (rel.val k).isSome_eq
    rw [Option.isSome_map] at q
    rw [← q, ← l]
    exact h _ (I.tok _)
theorem d_notIn {Q : Value → Shared → Prop} (hu : A.units + 1 < cLine) (I : Inv X pins σ H s) (g : DGet H a y o) (ry : RelV y u) (h : ∀ s', Inv X pins σ H s' → Q (.bool (!o.isSome)) s') :
    wpAny (model X.prog X.w) A (compareOp .NotIn u (.ref a)) Q E s := by
  rcases g with ⟨kvs, k, e, ey, l⟩ | ⟨kvs, k, b, e, ey, eb, l⟩
  · subst ey
    obtain ⟨z, hd, vs, rel, dd⟩ := dk_rd I.hok e
    refine wpAny_notIn_of (kV_is ry) hd dd.mapOf ?_
    rw [← (rel.val k).isSome_eq, ← l]
    exact h _ (I.tok _)
  · subst ey
    cases (show u = Value.ref b from ry)
    obtain ⟨z, hd, xs, rel, dd⟩ := dt_rd I.hok e
    refine wpAny_notIn_heap (tupleKind_room_in1 hu) (key_of I.hok eb) hd dd ?_
    have q := (rel.val k).isSome_eq
    rw [Option.isSome_map] at q
    rw [← q, ← l]
    exact h _ (I.tok _)
theorem d_write {h' : Heap} {t' : Nat} {ob : HO} (I : Inv X pins σ H s) (mu : Mut (H a)) (hs : Heap.SameBut a s.heap h') (he : ∃ q, h'.get? a = some q) (new : ObjOk X.prog X.w (upd H a ob) h' a ob) :
    Inv X pins σ (upd H a ob) { s with heap := h', toks := t' } :=
  I.write (x := a) (e := a) mu (.inl rfl) (fun b q hb z => (hs.2 b hb).trans z) he new
theorem dk_new {P : Program} {w : World} {H' : Hp} {h' : Heap} {kvs : List (Key × V)} {vs : List (Key × Value)} (z : kvs.length ≤ sizeLine) (hd : (a == sysModules) = false) (rel : KV kvs vs) (dd : h'.DictOf (mixKind P w) a vs) :
    ObjOk P w H' h' a (.dK kvs) := ⟨z, hd, vs, rel, dd⟩
theorem d_setItem {H' : Hp} {Q : Unit → Shared → Prop} (hu : A.units + 1 < cLine) (I : Inv X pins σ H s) (g : DPut H a y v H') (ry : RelV y u) (rv : RelV v r) (h : ∀ s', Inv X pins σ H' s' → Q () s') :
    wpAny (model X.prog X.w) A (setItem (.ref a) u r) Q E s := by
  rcases g with ⟨kvs, k, e, ey, l, eH⟩ | ⟨kvs, k, b, e, ey, eb, l, eH⟩
  · subst ey eH
    obtain ⟨z, hd, vs, rel, dd⟩ := dk_of I.hok e
    have hz : vs.length ≤ sizeLine := by rw [← rel.length]; exact z
    have hl : (putK kvs k v).length ≤ sizeLine := by have := length_putK kvs k v; omega
    refine wpAny_setItem_pairs (hsz := hz) (kV_is ry) dd fun h' dd' hs => h _ ?_
    have he : ∃ q, h'.get? a = some q := let ⟨q, _, _, hq, _⟩ := dd'; ⟨q, hq⟩
    exact d_write I (by rw [e]; exact True.intro) hs he (dk_new hl hd (rel.put k rv) dd')
  · subst ey eH
    cases (show u = Value.ref b from ry)
    obtain ⟨z, hd, xs, rel, dd⟩ := dt_of I.hok e
    have hz : xs.length ≤ sizeLine := by rw [← Paired.length rel]; exact z
    have hl : (putK kvs k v).length ≤ sizeLine := by have := length_putK kvs k v; omega
    refine wpAny_setItem_heap (hsz := hz) (tupleKind_room_in1 hu) (key_of I.hok eb) dd fun h' dd' hs => h _ ?_
    obtain ⟨q, es, ep, hq, h2, h3, h4, _, h5⟩ := dd'
    refine d_write I (by rw [e]; exact True.intro) hs ⟨q, hq⟩ ⟨hl, hd, _, (rel.put k eb rv).keeps fun c ys ec => ?_, q, es, ep, hq, h2, h3, h4, h5⟩
    rw [upd_ne (ne_of ec e (fun z => nomatch z))]
    exact ec
end
section
variable {X : Cx} {pins : List (Addr × Obj)} {σ : St} {H : Hp} {s : Shared} {a : Addr} {kvs : List (Key × V)} {k : Key} {u : Value} {A : Around} {E : Value → Shared → Prop}
theorem d_pop {v : V} {more : List Value} {Q : Value → Shared → Prop} (I : Inv X pins σ H s) (e : H a = some (.dK kvs)) (ry : RelV (kV k) u) (l : valV kvs k = some v) (hm : more = [] ∨ ∃ x, more = [x])
    (h : ∀ w' s', Inv X pins σ (upd H a (.dK (dropK kvs k))) s' → RelV v w' → Q w' s') : wpAny (model X.prog X.w) A (call (.builtin "dict.pop") (.ref a :: u :: more)) Q E s := by
  obtain ⟨z, hd, vs, rel, dd⟩ := dk_of I.hok e
  obtain ⟨w', hw, rw'⟩ := RelO.some_of (v := v) (o := valueAt vs k) (by rw [← l]; exact rel.val k)
  have hp : (keyPart u).isSome = true := by
    cases k with
    | inl i => obtain ⟨t, q⟩ := (show ∃ t, u = Value.int i t from ry); subst q; rfl
    | inr x => obtain ⟨t, q⟩ := (show ∃ t, u = Value.str x t from ry); subst q; rfl
  have ha : argsOk "dict.pop" ⟨.ref a :: u :: more, []⟩ := by
    rcases hm with q | ⟨x, q⟩
    · subst q; exact PySem.F.args_dict_pop_2 _ _
    · subst q; exact PySem.F.args_dict_pop_3 _ _ _
  refine call_meetsIn PySem.F.slot_dict_pop dd.typeIs PySem.F.entry_dict_pop ha (meets_dict_pop_there (mixKind X.prog X.w) a (kV_is ry) more hm hp)
    ⟨vs, w', dd, by rw [← rel.length]; exact z, hw, fun h' dd' hs => h w' _ ?_ rw'⟩
  have he : ∃ q, h'.get? a = some q := let ⟨q, _, _, hq, _⟩ := dd'; ⟨q, hq⟩
  exact d_write I (by rw [e]; exact True.intro) hs he (dk_new (Nat.le_trans (dropK_le kvs k) z) hd (rel.drop k) dd')
end
def NoSl (i : Expr) : Prop := ∀ ov iv, subscripted i false ov iv = operate [ov, iv] (getItem ov iv)
theorem subD_of {prog : Program} {w : World} {A : Around} {E : Value → Shared → Prop} {s : Shared} {env : Env} {value slice : Expr} {pos : Pos} {T id : String} {Q : Value → Shared → Prop}
    (hl : typeLookup (.type T) "__getitem__" = pure (some (.builtin id))) (hs : NoSl slice)
    (h : wpAny (model prog w) A (eval value env) (fun o s₁ => wpAny (model prog w) A (eval slice env) (fun i s₂ => s₂.TypeIs o T ∧ wpAny (model prog w) A (getItem o i) Q E s₂) E s₁) E s) :
    wpAny (model prog w) A (eval (.Subscript value slice pos) env) Q E s := by
  refine Subscript_ (wpAny_mono h (fun o s₁ h₁ => wpAny_mono h₁ (fun i s₂ h₂ => ?_) fun _ _ x => x) fun _ _ x => x)
  obtain ⟨hT, h₂⟩ := h₂
  unfold subscriptTail
  refine wpAny_bind ?_
  rw [getitemInPython_of_ne hT.not_modules]
  refine wpAny_bind (wpAny_specialOf hT hl ?_)
  have fin : wpAny (model prog w) A (subscripted slice false o i) (fun r s₃ => wpAny (model prog w) A (letTemporaryGo value o r >>= fun _ => pure r) Q E s₃) E s₂ := by
    rw [hs o i]
    exact wpAny_operating (wpAny_mono h₂ (fun r s₃ h₃ => wpAny_bind (wpAny_letTemporaryGo (wpAny_pure h₃))) fun _ _ x => x)
  first
    | exact wpAny_pure (wpAny_bind fin)
    | exact wpAny_bind (wpAny_pure (wpAny_bind fin))
    | exact wpAny_bind fin
theorem dict_typeIs {X : Cx} {pins : List (Addr × Obj)} {σ : St} {H : Hp} {s : Shared} {a : Addr} {y : V} {o : Option V} (I : Inv X pins σ H s) (g : DGet H a y o) : s.TypeIs (.ref a) "dict" := by
  rcases g with ⟨kvs, k, e, _, _⟩ | ⟨kvs, k, b, e, _, _, _⟩
  · obtain ⟨_, _, vs, _, dd⟩ := dk_rd I.hok e
    exact dd.typeIs
  · obtain ⟨_, _, xs, _, dd⟩ := dt_rd I.hok e
    exact dd.typeIs
inductive dgetR (x y : V) (H2 : Hp) (Q : VK) : Prop
  | mk (a v) (h1 : x = .ref a) (h2 : DGet H2 a y (some v)) (h3 : Q v H2) : dgetR x y H2 Q
def tDGet (td ty : TE) : TE := fun σ H Q => td σ H fun x H1 => ty σ H1 fun y H2 => dgetR x y H2 Q
inductive dinR (x y : V) (H2 : Hp) (Q : VK) : Prop
  | mk (a o) (h1 : x = .ref a) (h2 : DGet H2 a y o) (h3 : Q (.bl o.isSome) H2) : dinR x y H2 Q
def tDIn (ty td : TE) : TE := fun σ H Q => ty σ H fun y H1 => td σ H1 fun x H2 => dinR x y H2 Q
inductive dninR (x y : V) (H2 : Hp) (Q : VK) : Prop
  | mk (a o) (h1 : x = .ref a) (h2 : DGet H2 a y o) (h3 : Q (.bl (!o.isSome)) H2) : dninR x y H2 Q
def tDNotIn (ty td : TE) : TE := fun σ H Q => ty σ H fun y H1 => td σ H1 fun x H2 => dninR x y H2 Q
def sDPut (td ty tv : TE) : TS := fun D σ H => tv σ H fun v H1 => td σ H1 fun x H2 => ty σ H2 fun y H3 => ∃ a H4, x = .ref a ∧ DPut H3 a y v H4 ∧ D.nx σ H4
def sDAug (td ty tv : TE) (rd : V → V → Hp → VK → Prop) : TS := fun D σ H => td σ H fun x H1 => ty σ H1 fun y H2 => ∃ a v, x = .ref a ∧ DGet H2 a y (some v) ∧
  tv σ H2 fun y2 H3 => rd v y2 H3 fun z H4 => ∃ H5, DPut H4 a y z H5 ∧ D.nx σ H5
section
variable {X : Cx} {o i e value : Expr} {pos pos' tpos : Pos} {td ty tv : TE}
theorem pe_dget (hu : X.A.units + 1 < cLine) (ho : PE X o td) (hi : PE X i ty) (hs : NoSl i) : PE X (.Subscript o i pos) (tDGet td ty) := by
  intro pins s σ H Q I h
  refine subD_of PySem.F.slot_dict_getitem.lookup hs (thn (ho pins s σ H _ I h) fun u s1 ⟨x, H1, I1, rx, q1⟩ => thn (hi pins s1 σ H1 _ I1 q1) fun iv s2 ⟨y, H2, I2, ry, a, v, ex, g, q2⟩ => ?_)
  subst ex
  obtain rfl : u = Value.ref a := rx
  exact ⟨dict_typeIs I2 g, d_getItem hu I2 g ry fun w' s3 I3 rw' => ⟨v, H2, I3, rw', q2⟩⟩
theorem pc_din (hu : X.A.units + 1 < cLine) (hi : PE X i ty) (ho : PE X o td) : PC X .In i o (tDIn ty td) := by
  intro pins s σ H Q I h
  refine thn (hi pins s σ H _ I h) fun iv s1 ⟨y, H1, I1, ry, q1⟩ => thn (ho pins s1 σ H1 _ I1 q1) fun u s2 ⟨x, H2, I2, rx, a, ov, ex, g, q2⟩ => ?_
  subst ex
  obtain rfl : u = Value.ref a := rx
  exact d_in hu I2 g ry fun s3 I3 => ⟨.bl ov.isSome, H2, I3, rfl, q2⟩
theorem pc_dnotin (hu : X.A.units + 1 < cLine) (hi : PE X i ty) (ho : PE X o td) : PC X .NotIn i o (tDNotIn ty td) := by
  intro pins s σ H Q I h
  refine thn (hi pins s σ H _ I h) fun iv s1 ⟨y, H1, I1, ry, q1⟩ => thn (ho pins s1 σ H1 _ I1 q1) fun u s2 ⟨x, H2, I2, rx, a, ov, ex, g, q2⟩ => ?_
  subst ex
  obtain rfl : u = Value.ref a := rx
  exact d_notIn hu I2 g ry fun s3 I3 => ⟨.bl (!ov.isSome), H2, I3, rfl, q2⟩
theorem ps_dput (hu : X.A.units + 1 < cLine) (ho : PE X o td) (hi : PE X i ty) (hv : PE X value tv) (hs : swapsWith value (some (.Subscript o i pos')) pos.line X.env = pure false) :
    PS X (.Assign [.Subscript o i pos'] value pos) (sDPut td ty tv) := by
  intro pins s σ H D I h
  refine wpAny_Assign_Subscript (thn (hv pins s σ H _ I h) fun r s1 ⟨v, H1, I1, rv, q1⟩ => thn (ho pins s1 σ H1 _ I1 q1) fun u s2 ⟨x, H2, I2, rx, q2⟩ => thn (hi pins s2 σ H2 _ I2 q2) fun iv s3 ⟨y, H3, I3, ry, a, H4, ex, g, q3⟩ => ?_) hs
  subst ex
  obtain rfl : u = Value.ref a := rx
  exact d_setItem hu I3 g ry rv fun s4 I4 => ⟨σ, H4, I4, q3⟩
theorem ps_daug {op : Operator} {rd : V → V → Hp → VK → Prop} (hu : X.A.units + 1 < cLine) (ho : PE X o td) (hi : PE X i ty) (hv : PE X value tv) (hop : InOp X op rd)
    (ha : ∀ ov iv new, augStore i ov iv new = (do holding [new, ov, iv] (setItem ov iv new); release [new, ov, iv] []; pure .next)) : PS X (.AugAssign (.Subscript o i tpos) op value pos) (sDAug td ty tv rd) := by
  intro pins s σ H D I h
  refine wpAny_AugAssign_SubscriptAny (thn (ho pins s σ H _ I h) fun u s1 ⟨x, H1, I1, rx, q1⟩ => thn (hi pins s1 σ H1 _ I1 q1) fun iv s2 ⟨y, H2, I2, ry, a, v, ex, g, q2⟩ => ?_) ha
  subst ex
  obtain rfl : u = Value.ref a := rx
  refine d_getItem hu I2 g ry fun w' s3 I3 rw' => thn (hv pins s3 σ H2 _ I3 q2) fun w2 s4 ⟨y2, H3, I4, ry2, q3⟩ => thn (hop pins s4 σ H3 v y2 w' w2 _ I4 rw' ry2 q3) fun w3 s5 ⟨z, H4, I5, rz, H5, g5, q4⟩ => ?_
  exact d_setItem hu I5 g5 ry rz fun s6 I6 => ⟨σ, H5, I6, q4⟩
end
theorem dk_empty {P : Program} {w : World} {H : Hp} (h : Heap) (hb : sysModules < h.objs.size) : ObjOk P w H (h.push { cls := .type "dict", data := .dict #[] }) h.objs.size (.dK []) :=
  ⟨Nat.zero_le _, beq_eq_false_iff_ne.mpr (Ne.symm (Nat.ne_of_lt hb)), [], .nil, Heap.DictOf.new h⟩
theorem dt_empty {P : Program} {w : World} {H : Hp} (h : Heap) (hb : sysModules < h.objs.size) : ObjOk P w H (h.push { cls := .type "dict", data := .dict #[] }) h.objs.size (.dT []) :=
  ⟨Nat.zero_le _, beq_eq_false_iff_ne.mpr (Ne.symm (Nat.ne_of_lt hb)), [], .nil, _, #[], 0, Heap.get?_push_size _ rfl, ⟨rfl, rfl, rfl⟩, rfl, rfl, List.nodup_nil⟩
def tDNewK : TE := fun _ H Q => ∀ p, H p = none → Q (.ref p) (upd H p (.dK []))
def tDNewT : TE := fun _ H Q => ∀ p, H p = none → Q (.ref p) (upd H p (.dT []))
section
variable {X : Cx} {pos : Pos}
theorem pe_dnewK : PE X (.Dict [] [] pos) tDNewK := fun pins s σ H Q I h =>
  wpAny_Dict_empty ⟨.ref s.heap.objs.size, _, I.laid (a := s.heap.objs.size) (o := .dK []) (t' := s.toks) (fun _ _ q => Heap.get?_push_of_some _ q) (Nat.le_refl _) (dk_empty s.heap I.big), rfl, h _ (I.hok.fresh (Nat.le_refl _))⟩
theorem pe_dnewT : PE X (.Dict [] [] pos) tDNewT := fun pins s σ H Q I h =>
  wpAny_Dict_empty ⟨.ref s.heap.objs.size, _, I.laid (a := s.heap.objs.size) (o := .dT []) (t' := s.toks) (fun _ _ q => Heap.get?_push_of_some _ q) (Nat.le_refl _) (dt_empty s.heap I.big), rfl, h _ (I.hok.fresh (Nat.le_refl _))⟩
end
structure M1 (X : Cx) (o : Expr) (m : Str) (apos : Pos) (e : Expr) (cpos : Pos) : Prop where
  base : attributeBase o m X.env (eval o X.env) = eval o X.env
  few : ((backTo cpos (starEach [e] X.env)).all (fun x => !x.1) && (backToKw cpos (keywordEach [] X.env)).all (fun x => x.1.isSome)
    && decide (([e] : List Expr).length + ([] : List Keyword).length + (if ([] : List Keyword).isEmpty then 0 else 1) < 30)) = true
  line : (apos.endLine == cpos.line) = true
  trees : backTo cpos (starEach [e] X.env) = [(false, eval e X.env)]
structure M2 (X : Cx) (o : Expr) (m : Str) (apos : Pos) (e f : Expr) (cpos : Pos) : Prop where
  base : attributeBase o m X.env (eval o X.env) = eval o X.env
  few : ((backTo cpos (starEach [e, f] X.env)).all (fun x => !x.1) && (backToKw cpos (keywordEach [] X.env)).all (fun x => x.1.isSome)
    && decide (([e, f] : List Expr).length + ([] : List Keyword).length + (if ([] : List Keyword).isEmpty then 0 else 1) < 30)) = true
  line : (apos.endLine == cpos.line) = true
  trees : backTo cpos (starEach [e, f] X.env) = [(false, eval e X.env), (false, eval f X.env)]
def IsD (H : Hp) (a : Addr) : Prop := (∃ kvs, Rd H a (.dK kvs)) ∨ ∃ kvs, Rd H a (.dT kvs)
theorem isD_at {X : Cx} {pins : List (Addr × Obj)} {σ : St} {H : Hp} {s : Shared} {a : Addr} (I : Inv X pins σ H s) (d : IsD H a) :
    s.TypeIs (.ref a) "dict" ∧ (∀ b, Value.ref a = .ref b → ∃ ob, s.heap.get? b = some ob ∧ ob.dict = none) ∧ (a == sysModules) = false := by
  rcases d with ⟨kvs, e⟩ | ⟨kvs, e⟩
  · obtain ⟨_, hd, vs, _, dd⟩ := dk_rd I.hok e
    refine ⟨dd.typeIs, fun b q => ?_, hd⟩
    cases q
    obtain ⟨ob, _, _, h1, h2, _⟩ := dd
    exact ⟨ob, h1, h2.2.1⟩
  · obtain ⟨_, hd, xs, _, dd⟩ := dt_rd I.hok e
    refine ⟨dd.typeIs, fun b q => ?_, hd⟩
    cases q
    obtain ⟨ob, _, _, h1, h2, _⟩ := dd
    exact ⟨ob, h1, h2.2.1⟩
section
variable {X : Cx} {pins : List (Addr × Obj)} {σ : St} {H : Hp} {s : Shared} {a : Addr} {y d : V} {u r : Value} {o : Option V} {A : Around} {E : Value → Shared → Prop}
theorem d_get2 {Q : Value → Shared → Prop} (hu : A.units + 1 < cLine) (I : Inv X pins σ H s) (g : DGet H a y o) (ry : RelV y u) (rd : RelV d r) (h : ∀ w' s', Inv X pins σ H s' → RelV (o.getD d) w' → Q w' s') :
    wpAny (model X.prog X.w) A (call (.builtin "dict.get") [.ref a, u, r]) Q E s := by
  rcases g with ⟨kvs, k, e, ey, l⟩ | ⟨kvs, k, b, e, ey, eb, l⟩
  · subst ey
    obtain ⟨z, hd, vs, rel, dd⟩ := dk_rd I.hok e
    refine call_meetsIn PySem.F.slot_dict_get dd.typeIs PySem.F.entry_dict_get (PySem.F.args_dict_get_3 _ _ _) (meets_dict_get_default (mixKind X.prog X.w) a (kV_is ry) hd r) ⟨_, dd.mapOf, h _ _ (I.tok _) ?_⟩
    rw [l]
    exact (rel.val k).getD rd
  · subst ey
    cases (show u = Value.ref b from ry)
    obtain ⟨z, hd, xs, rel, dd⟩ := dt_rd I.hok e
    refine call_meetsIn PySem.F.slot_dict_get dd.typeIs PySem.F.entry_dict_get (PySem.F.args_dict_get_3 _ _ _) (meetsH_dict_get_default (tupleKind (mixKind X.prog X.w)) a b hd r) ⟨tupleKind_room_in1 hu, k, xs, key_of I.hok eb, dd, h _ _ (I.tok _) ?_⟩
    rw [l]
    exact (rel.val k).getD rd
end
def tDGet2 (td ty tx : TE) : TE := fun σ H Q => td σ H fun x H1 => ∃ a, x = .ref a ∧ IsD H1 a ∧ ty σ H1 fun y H2 => tx σ H2 fun z H3 => ∃ o, DGet H3 a y o ∧ Q (o.getD z) H3
def tDPop1 (td ty : TE) : TE := fun σ H Q => td σ H fun x H1 => ∃ a, x = .ref a ∧ IsD H1 a ∧ ty σ H1 fun y H2 => ∃ kvs k v, H2 a = some (.dK kvs) ∧ y = kV k ∧ valV kvs k = some v ∧ Q v (upd H2 a (.dK (dropK kvs k)))
section
variable {X : Cx} {o e f : Expr} {apos cpos : Pos} {td ty tx : TE}
theorem pe_dget2 (hu : X.A.units + 1 < cLine) (ho : PE X o td) (he : PE X e ty) (hf : PE X f tx) (m : M2 X o "get" apos e f cpos) : PE X (.Call (.Attribute o "get" apos) [e, f] [] cpos) (tDGet2 td ty tx) := by
  intro pins s σ H Q I h
  refine wpAny_Call_method m.base m.few m.line PySem.F.plainAttrs_dict PySem.F.slot_dict_get PySem.F.type_dict_get (thn (ho pins s σ H _ I h) fun u s1 ⟨x, H1, I1, rx, a, ex, d, q1⟩ => ?_)
  subst ex
  obtain rfl : u = Value.ref a := rx
  obtain ⟨t1, t2, _⟩ := isD_at I1 d
  refine ⟨t1, t2, ?_⟩
  rw [m.trees]
  refine Calls.callWith_builtin rfl (Calls.evalArgs_plain (Calls.spliced_cons (thn (he pins s1 σ H1 _ I1 q1) fun iv s2 ⟨y, H2, I2, ry, q2⟩ =>
    Calls.spliced_cons (thn (hf pins s2 σ H2 _ I2 q2) fun fv s3 ⟨z, H3, I3, rz, ov, g, q3⟩ => Calls.spliced_nil ?_))))
  exact d_get2 hu I3 g ry rz fun w' s4 I4 rw' => ⟨_, H3, I4, rw', q3⟩
theorem pe_dpop1 (ho : PE X o td) (he : PE X e ty) (m : M1 X o "pop" apos e cpos) : PE X (.Call (.Attribute o "pop" apos) [e] [] cpos) (tDPop1 td ty) := by
  intro pins s σ H Q I h
  refine wpAny_Call_method m.base m.few m.line PySem.F.plainAttrs_dict PySem.F.slot_dict_pop PySem.F.type_dict_pop (thn (ho pins s σ H _ I h) fun u s1 ⟨x, H1, I1, rx, a, ex, d, q1⟩ => ?_)
  subst ex
  obtain rfl : u = Value.ref a := rx
  obtain ⟨t1, t2, _⟩ := isD_at I1 d
  refine ⟨t1, t2, ?_⟩
  rw [m.trees]
  refine Calls.callWith_builtin rfl (Calls.evalArgs_plain (Calls.spliced_cons (thn (he pins s1 σ H1 _ I1 q1) fun iv s2 ⟨y, H2, I2, ry, kvs, k, v, ea, ey, l, q2⟩ => Calls.spliced_nil ?_)))
  subst ey
  exact d_pop I2 ea ry l (.inl rfl) fun w' s3 I3 rw' => ⟨v, _, I3, rw', q2⟩
end
section
variable {X : Cx} {pins : List (Addr × Obj)} {σ : St} {H : Hp} {s : Shared} {a : Addr} {kvs : List (Key × V)} {A : Around} {E : Value → Shared → Prop}
end
section
variable {X : Cx} {pins : List (Addr × Obj)} {σ : St} {H : Hp} {s : Shared} {a : Addr} {y : V} {u : Value} {A : Around} {E : Value → Shared → Prop}
end
end L2
namespace Att
open PySem PySem.W PySem.Calls PyProof.Rows
theorem ints_of_wellAll {P : Params} {h : Heap} : ∀ (ns : List Int) (vs : List Value), WellAll P h vs (ns.map WData.int) → IntsAre vs ns := by
  intro ns
  induction ns with
  | nil =>
    intro vs w
    rw [List.map_nil] at w
    cases w
    exact .nil
  | cons n ns ih =>
    intro vs w
    rw [List.map_cons] at w
    cases w with
    | cons a b =>
      cases a
      exact .cons _ _ (ih _ b)
theorem script_of {l : OpenLaw} {n : Nat} (hn : l.most = some n) {P : Params} {h : Heap} {args : List WData} {vals : List Value}
    (hpre : l.row.toRowW.claim.pre args = true) (hwl : WellAll P h vals args) :
    ∃ a vs ns, vals = [Value.ref a] ∧ args = [WData.list (ns.map WData.int)] ∧ h.get? a = some { cls := .type "list", data := .seq vs.toArray } ∧ IntsAre vs ns ∧ ns.length ≤ n := by
  have hsh : WShape.hasAll [] args [.list .int] = true := (pre_splitW hpre).1
  have hc : l.pre.holds [] { args := args } = true := (pre_splitW hpre).2
  obtain ⟨d, r, rfl, h1, h2⟩ := hasAllW_cons hsh
  obtain rfl := hasAllW_nil h2
  obtain ⟨xs, rfl, h3⟩ := hasW_list h1
  obtain ⟨ns, rfl⟩ := items_int h3
  have hlen : ns.length ≤ n := by
    unfold OpenLaw.pre at hc
    have h4 : (WTm.not (.lt (.lit (.int (n : Int))) (.len (.arg 0)))).holds [] { args := [.list (ns.map .int)] } = true := by
      have h4 := (holds_andW hc).1
      rw [hn] at h4
      exact h4
    have h5 := condW_of h4 (w_not (w_lt w_lit (w_len_list (w_arg rfl))))
    rw [List.length_map] at h5
    refine Nat.le_of_not_lt fun q => ?_
    have q' : (n : Int) < ((ns.length : Nat) : Int) := by omega
    first
      | (rw [decide_eq_true q'] at h5; exact absurd h5 (by decide))
      | (simp at h5; omega)
  cases hwl with
  | cons w1 w2 =>
    cases w2
    cases w1 with
    | list ho hall => exact ⟨_, _, ns, rfl, rfl, ho, ints_of_wellAll ns _ hall, hlen⟩
theorem post_true (l : OpenLaw) (args : List WData) : l.row.toRowW.claim.post args (.bool true) args = true :=
  postW_of (r := l.row.toRowW) (X := (true == true))
    (show WShape.has [] (.bool true) .bool = true by first | rfl | decide | simp [WShape.has, WShape.arms, WShape.armsAll])
    (show (WTm.eq .res (.lit (.bool true))).value [] { args := args, res := some (.bool true), after := args } = some (.bool (true == true)) from w_eq_bool (w_res rfl) w_lit) rfl
theorem attach_call {l : OpenLaw} {n : Nat} {q : Program} {loose : List Str} {XP : (Str → Option Value) → Heap → Prop} {YP : World → Heap → Prop} {d : DefRec}
    (hn : l.most = some n) (hdf : d.params.defaults = [])
    (call : ∀ (w : World) (s₀ s₁ : Shared) (mg mb : Str → Option Value) (fa : Addr) (o : Obj) (pm cd doc : Value) (a : Addr) (vs : List Value) (ns : List Int),
      Ground q loose [] XP w s₀ mg mb s₁.heap → YP w s₁.heap →
      s₁.heap.get? fa = some o → o.data = .func (docDef d.name d.params d.body d.scope pm cd doc) → s₁.heap.CodeRec cd d.name → mg d.name = some (.ref fa) →
      s₁.heap.get? a = some { cls := .type "list", data := .seq vs.toArray } → IntsAre vs ns → ns.length ≤ n → s₁.gens = #[] →
      codeAny (model l.prog w) callerA (.call (.ref fa) ⟨[.ref a], []⟩) (fun r s' => r = .ok (.ret (.bool true)) ∧ OldK s₁.heap s'.heap ∧ s'.os = s₁.os ∧ AllBare s'.gens) s₁) :
    WalkO q loose XP YP l.row.toRowW d [] (fun f vs => PySem.call f vs) := by
  intro w s₀ s₁ mg mb G Y fa o pm cd doc dV kV ho hd hcd hD hmg hg args vals as hpre hlay hrd hwl hlo
  obtain rfl : dV = .none := Dflts.none hD hdf
  obtain rfl : kV = .none := Dflts.noKw hD
  obtain ⟨a, vs, ns, rfl, rfl, hobj, hints, hlen⟩ := script_of hn hpre hwl
  refine enter_call (codeAny_mono (call w s₀ s₁ mg mb fa o pm cd doc a vs ns G Y ho (fd_plain hd) hcd hmg hobj hints hlen hg) fun r s' hq => ?_)
  obtain ⟨rfl, h2, h3, h4⟩ := hq
  exact ⟨.inl ⟨.bool true, .bool true, [], rfl, fun _ => rfl, .bool true, post_true l _, fun _ => ⟨List.Pairwise.nil, fun _ hm => (nomatch hm)⟩⟩, h2, h3, h4⟩
section
variable {prog : Program} {w : World} {A : Around} {E : Value → Shared → Prop} {s : Shared} {K : Frag}
end
end Att
namespace L2
open PySem PySem.Spec PyProof.Rows
theorem vals_ints : ∀ {vs : List Value} {ns : List Int}, IntsAre vs ns → Vals (ns.map V.int) vs
  | _, _, .nil => .nil
  | _, _, .cons n t h => .cons ⟨t, rfl⟩ (vals_ints h)
def Only (H : Hp) : Prop := ∀ b, H b = none ∨ ∃ o xs, H b = some (.frz o (.lst xs))
theorem law_call {P : Program} {w : World} {K : PySem.W.Frag} {mg mb : Str → Option Value} {CX : CXT} {k : Nat} {fa a : Addr} {fd : FuncData} {x : Str} {sp : Sp} {s₁ : Shared} {vs : List Value} {ns : List Int}
    (KX : K.In s₁.heap) (hns : s₁.heap.Ns mainGlobals mg) (hb : s₁.heap.Ns builtinsNs mb) (hbb : ∀ x : Str, x ≠ "__name__" → mb x = bootBuiltins x) (hlim : s₁.heap.NoLimit) (hg : s₁.gens = #[])
    (ha : s₁.heap.get? a = some { cls := .type "list", data := .seq vs.toArray }) (hi : IntsAre vs ns) (hl : ns.length ≤ sizeLine) (hr : Room k callerA)
    (F : ∀ base : Heap, K.In base → base.Ns mainGlobals mg → FnOk P w K mg base CX k fa fd [x] sp) (hbind : ∀ (s : Shared) (u : Value), BindsTo s fd ⟨[u], []⟩ [(x, u)])
    (hsp : ∀ H : Hp, Only H → SqL K H a (ns.map V.int) → sp [.ref a] H (fun v _ => v = .bl true) fun _ _ _ => False)
    (hCX : ∀ H e s', CX [] H s₁ (fun _ _ _ => False) e s' → False) :
    codeAny (model P w) callerA (.call (.ref fa) ⟨[.ref a], []⟩) (fun r s' => r = .ok (.ret (.bool true)) ∧ OldK s₁.heap s'.heap ∧ s'.os = s₁.os ∧ AllBare s'.gens) s₁ := by
  have rv := vals_ints hi
  have lenV := hi.length
  have core : ∀ H : Hp, Only H → SqL K H a (ns.map V.int) → HOk P w H s₁.heap → (∀ b, H b ≠ none → b = a) → (H a ≠ none → K.lookup a = none) →
      codeAny (model P w) callerA (.call (.ref fa) ⟨[.ref a], []⟩) (fun r s' => r = .ok (.ret (.bool true)) ∧ OldK s₁.heap s'.heap ∧ s'.os = s₁.os ∧ AllBare s'.gens) s₁ := by
    intro H hO hS hok hA hK
    have base_of : ∀ {b : Addr} {o : Obj}, s₁.heap.get? b = some o → H b = none → (hidT s₁.heap H).get? b = some o := fun e n => hidT_get e n
    have noA : ∀ {b : Addr} {o : Obj} {es : Array DictEntry} {ep : Nat}, s₁.heap.get? b = some o → o.data = .dict es ep → H b = none := fun {b o es ep} e d => by
      cases q : H b with
      | none => rfl
      | some u =>
        have e' : b = a := hA b (by rw [q]; simp)
        subst e'
        rw [ha] at e; cases e
        have d' : Data.seq vs.toArray _ = Data.dict es ep := d
        cases d'
    have nsK : ∀ {b : Addr} {m : Str → Option Value}, s₁.heap.Ns b m → (hidT s₁.heap H).Ns b m := fun {b m} ⟨o, es, ep, e, d, r⟩ => ⟨o, es, ep, base_of e (noA e d), d, r⟩
    have hKb : K.In (hidT s₁.heap H) := fun b o e => base_of (KX b o e) (by
      cases q : H b with
      | none => rfl
      | some u =>
        have e' : b = a := hA b (by rw [q]; simp)
        subst e'
        rw [hK (by rw [q]; simp)] at e; cases e)
    have hM : Mod K mg (hidT s₁.heap H) := ⟨hKb, nsK hns, ⟨mb, nsK hb, hbb⟩, let ⟨mc, h1, h2⟩ := hlim; ⟨mc, nsK h1, h2⟩⟩
    have e0 : Env0 P w K mg (hidT s₁.heap H) callerA [] s₁ H := ⟨rfl, hM, fun b o e => of_hidT e, Nat.le_of_eq (hidT_size _ _), trivial, fun b hb => absurd (show b ∈ ([] : List Addr) from hb) (by simp), hok, .of_eq hg⟩
    refine codeAny_mono ((F _ hKb (nsK hns)).run callerA [] s₁ H ⟨[.ref a], []⟩ [.ref a] [.ref a] _ _ hr e0 (hbind s₁ (.ref a)) (.cons rfl .nil) (hsp H hO hS)) fun r s' h => ?_
    cases r with
    | error e => exact (hCX H e s' h).elim
    | ok fl =>
      cases fl with
      | next => exact False.elim h
      | brk => exact False.elim h
      | cont => exact False.elim h
      | ret u =>
        obtain ⟨v, H', os, bare, un, hok', r', q⟩ := h
        have q' : v = .bl true := q
        subst q'
        obtain rfl : u = Value.bool true := r'
        refine ⟨rfl, OldK.of_keep fun b o e => ?_, os, bare⟩
        cases q : H b with
        | none => exact un.keep b o e q (by intro z; exact absurd (show b ∈ ([] : List Addr) from z) (by simp)) (by simp)
        | some u =>
          rcases hO b with z | ⟨ob, xs, z⟩
          · rw [q] at z; cases z
          · have z2 := un.frzs b ob _ z
            obtain ⟨e1, _⟩ := hok b _ z
            obtain ⟨e2, _⟩ := hok' b _ z2
            rw [e] at e1; cases e1
            exact e2
  cases hk : K.lookup a with
  | some o =>
    have e := KX a o hk
    rw [ha] at e
    cases e
    refine core (fun _ => none) (fun _ => .inl rfl) (.inr ⟨_, vs.toArray, _, hk, rfl, rfl, rfl, by rw [List.size_toArray, lenV]; exact hl, by simpa using rv⟩) (fun b u z => by have z' : (none : Option HO) = some u := z; cases z') (fun b z => absurd rfl z) fun z => absurd rfl z
  | none =>
    refine core (fun b => if b = a then some (.frz { cls := .type "list", data := .seq vs.toArray } (.lst (ns.map V.int))) else none) (fun b => ?_) (.inl (.inr ⟨{ cls := .type "list", data := .seq vs.toArray }, if_pos rfl⟩)) (fun b u z => ?_) (fun b z => ?_) fun _ => hk
    · by_cases hb : b = a
      · exact .inr ⟨_, _, if_pos hb⟩
      · exact .inl (if_neg hb)
    · by_cases hb : b = a
      · have z' := (if_pos hb).symm.trans z
        cases z'
        subst hb
        exact ⟨ha, by rw [List.length_map]; exact hl, vs, _, rv, ha⟩
      · have z' := (if_neg hb).symm.trans z
        cases z'
    · by_cases hb : b = a
      · exact hb
      · exact absurd (if_neg hb) z
end L2
namespace L2
open PySem PySem.Spec PyProof.Rows
theorem walk_of {l : PySem.W.OpenLaw} {n k : Nat} {q : Program} {loose : List Str} {XP : (Str → Option Value) → Heap → Prop} {YP : World → Heap → Prop} {d : DefRec} {K : Params → PySem.W.Frag} {CX : World → CXT} {sp : World → Sp} {x : Str}
    (hn : l.most = some n) (hn2 : n ≤ sizeLine) (hdf : d.params.defaults = []) (hr : Room k callerA)
    (hY : ∀ (w : World) (h : Heap), YP w h → (K w.params).In h)
    (F : ∀ (w : World) (mg : Str → Option Value) (fa : Addr) (h : Heap), (K w.params).In h → h.Ns mainGlobals mg → mg d.name = some (.ref fa) →
      ∃ fd : FuncData, (∀ (s : Shared) (u : Value), BindsTo s fd ⟨[u], []⟩ [(x, u)]) ∧
        ∀ base : Heap, (K w.params).In base → base.Ns mainGlobals mg → FnOk l.prog w (K w.params) mg base (CX w) k fa fd [x] (sp w))
    (hsp : ∀ (w : World) (H : Hp) (a : Addr) (ns : List Int), ns.length ≤ n → Only H → SqL (K w.params) H a (ns.map V.int) → sp w [.ref a] H (fun v _ => v = .bl true) fun _ _ _ => False)
    (hCX : ∀ (w : World) (H : Hp) (s : Shared) (e : Value) (s' : Shared), CX w [] H s (fun _ _ _ => False) e s' → False) :
    PySem.W.WalkO q loose XP YP l.row.toRowW d [] (fun f vs => PySem.call f vs) := by
  refine Att.attach_call hn hdf fun w s₀ s₁ mg mb fa o pm cd doc a vs ns G Y ho hd hcd hmg hobj hints hlen hg => ?_
  have KX := hY w _ Y
  obtain ⟨fd, hb, hF⟩ := F w mg fa _ KX G.T.g hmg
  exact law_call KX G.T.g G.T.b G.T.builtins G.T.nolimit hg hobj hints (Nat.le_trans hlen hn2) hr hF hb (fun H hO hS => hsp w H a ns hlen hO hS) fun H e s' => hCX w H s₁ e s'
theorem walk_ofK {l : PySem.W.OpenLaw} {n k : Nat} {q : Program} {loose : List Str} {XP : (Str → Option Value) → Heap → Prop} {YP : World → Heap → Prop} {d : DefRec} {K : Params → PySem.W.Frag} {CX : CXT} {sp : PySem.W.Frag → Sp} {x : Str}
    (hn : l.most = some n) (hn2 : n ≤ sizeLine) (hdf : d.params.defaults = []) (hr : Room k callerA)
    (hY : ∀ (w : World) (h : Heap), YP w h → (K w.params).In h)
    (F : ∀ (w : World) (mg : Str → Option Value) (fa : Addr) (h : Heap), (K w.params).In h → h.Ns mainGlobals mg → mg d.name = some (.ref fa) →
      ∃ fd : FuncData, (∀ (s : Shared) (u : Value), BindsTo s fd ⟨[u], []⟩ [(x, u)]) ∧
        ∀ base : Heap, (K w.params).In base → base.Ns mainGlobals mg → FnOk l.prog w (K w.params) mg base CX k fa fd [x] (sp (K w.params)))
    (hsp : ∀ (K : PySem.W.Frag) (H : Hp) (a : Addr) (ns : List Int), ns.length ≤ n → Only H → SqL K H a (ns.map V.int) → sp K [.ref a] H (fun v _ => v = .bl true) fun _ _ _ => False)
    (hCX : ∀ (H : Hp) (s : Shared) (e : Value) (s' : Shared), CX [] H s (fun _ _ _ => False) e s' → False) :
    PySem.W.WalkO q loose XP YP l.row.toRowW d [] (fun f vs => PySem.call f vs) :=
  walk_of (K := K) (CX := fun _ => CX) (sp := fun w => sp (K w.params)) hn hn2 hdf hr hY F (fun w H a ns h1 h2 h3 => hsp (K w.params) H a ns h1 h2 h3) fun _ H s e s' => hCX H s e s'
end L2
namespace L2
open PySem PySem.Spec PyProof.Rows
def inClass (s : Stmt) (j : Nat) : Stmt := match s with
  | .ClassDef _ _ _ body _ _ _ _ _ _ _ => body.getD j (.Pass ⟨0, 0, 0, 0⟩)
  | _ => .Pass ⟨0, 0, 0, 0⟩
def defArgs (s : Stmt) : Arguments := match s with
  | .FunctionDef _ a _ _ _ _ _ _ _ _ => a
  | _ => { posonlyargs := [], args := [], vararg := none, kwonlyargs := [], kw_defaults := [], kwarg := none, defaults := [] }
def defBody (s : Stmt) : List Stmt := match s with
  | .FunctionDef _ _ b _ _ _ _ _ _ _ => b
  | _ => []
def defScope (s : Stmt) : Scope := match s with
  | .FunctionDef _ _ _ _ _ _ sc _ _ _ => sc
  | _ => { kind := .function, names := [], isGenerator := false, isCoroutine := false }
abbrev CX0 : CXT := fun _ _ _ _ _ _ => False
abbrev E0 : XK := fun _ _ _ => False
theorem pass0 {X : Cx} : Passes CX0 X E0 := fun _ _ _ _ _ _ _ h => h.elim
structure Fun (K : PySem.W.Frag) (x qual : Str) (st : Stmt) (f : Addr) (fd : FuncData) : Prop where
  ex : ∃ (oc : Value) (od : Option Addr) (kV doc pm : Value) (an : Option Addr) (cdv ct : Value) (osl : Array (Option Value)),
    fd = PySem.W.fnOf x qual (defArgs st) (defBody st) (defScope st) .none kV doc pm an cdv ct ∧ K.lookup f = some ⟨oc, od, .func fd, osl⟩ ∧ PySem.W.codeIn K cdv qual = true
  kp : PySem.W.keepIn K (.ref f) = true
section
variable {P : Program} {w : World} {K : PySem.W.Frag} {mg : Str → Option Value} {base : Heap}
theorem Fun.ok {x qual : Str} {st : Stmt} {f : Addr} {fd : FuncData} {N ps : List Str} {k : Nat} {sp : Sp} (F : Fun K x qual st f fd) (S : FnScope N ps (defScope st)) (len : ∀ vs H Q E, sp vs H Q E → vs.length = ps.length)
    (hbody : ∀ (cdv : Value) (A : Around) (outer : List Env) (s : Shared) (H : Hp) (vs : List V) (Q : VK) (E : XK), Room k (A.deeper (envOfC qual (defScope st) s.heap.objs.size f cdv)) → sp vs H Q E →
      ∃ t, PSs (cxOf CX0 P w K mg base N qual (defScope st) f cdv A outer s H E).nox (defBody st) t ∧ t { nx := fun _ H' => Q .non H', rt := Q } (start N vs) H) : FnOk P w K mg base CX0 (k + 1) f fd ps sp := by
  obtain ⟨oc, od, kV, doc, pm, an, cdv, ct, osl, rfl, lk, hcd⟩ := F.ex
  refine fn_of lk hcd S len fun A outer s H vs Q E hr hsp => ?_
  obtain ⟨t, h, q⟩ := hbody cdv A outer s H vs Q E hr hsp
  exact ⟨t, h.nox, q⟩
theorem Fun.binds {x qual : Str} {st : Stmt} {f : Addr} {fd : FuncData} {ps : List Str} (F : Fun K x qual st f fd)
    (h : ∀ (kV doc pm : Value) (an : Option Addr) (cdv ct : Value) (us : List Value), us.length = ps.length → bindArgs (PySem.W.fnOf x qual (defArgs st) (defBody st) (defScope st) .none kV doc pm an cdv ct) ⟨us, []⟩ = pure (ps.zip us)) : Binds K fd ps [] := by
  obtain ⟨oc, od, kV, doc, pm, an, cdv, ct, osl, rfl, lk, hcd⟩ := F.ex
  exact .all (h kV doc pm an cdv ct)
theorem fun_mk {x qual : Str} {st : Stmt} {f : Addr} {oc : Value} {od an : Option Addr} {osl : Array (Option Value)} {kV doc pm cdv ct : Value} (l : K.lookup f = some ⟨oc, od, .func (PySem.W.fnOf x qual (defArgs st) (defBody st) (defScope st) .none kV doc pm an cdv ct), osl⟩)
    (c : PySem.W.codeIn K cdv qual = true) (k : PySem.W.keepIn K (.ref f) = true) : Fun K x qual st f (PySem.W.fnOf x qual (defArgs st) (defBody st) (defScope st) .none kV doc pm an cdv ct) := ⟨⟨oc, od, kV, doc, pm, an, cdv, ct, osl, rfl, l, c⟩, k⟩
end
theorem hu_of {A : Around} {k : Nat} (hr : Room k A) : A.units + 1 < cLine := Nat.lt_of_le_of_lt (Nat.add_le_add_left (by decide : 1 ≤ 64) _) hr.units
theorem small1000 {n : Nat} (h : n ≤ 1000) : n < sizeLine := Nat.lt_of_le_of_lt h (by decide)
section
variable {X : Cx}
theorem pv (i : Nat) {x : Str} {pos : Pos} (hN : X.N[i]? = some x := by rfl) (hv : Vis X.env.scope x := by first | exact Or.inl rfl | exact Or.inr (Or.inl rfl) | exact Or.inr (Or.inr rfl)) (hd : (x == ("__debug__" : Str)) = false := by decide)
    (hcd : (x == ("__classdict__" : Str)) = false := by decide) : PE X (.Name x pos) (tVar i) := pe_var hN hv hd hcd
end
theorem iteF {A B : Prop} (h : B) : if false = true then A else B := by
  rw [if_neg Bool.false_ne_true]
  exact h
theorem iteT {A B : Prop} (h : A) : if true = true then A else B := by
  rw [if_pos rfl]
  exact h
theorem ite2 {c A B : Prop} [Decidable c] (h1 : c → A) (h2 : ¬ c → B) : if c then A else B := by
  by_cases h : c
  · rw [if_pos h]
    exact h1 h
  · rw [if_neg h]
    exact h2 h
section
variable {κ : Type} [DecidableEq κ]
theorem valV_in {kvs : List (κ × V)} {k : κ} {v : V} (h : valV kvs k = some v) : k ∈ kvs.map (·.1) := by
  have q : (kvs.any fun kv => decide (kv.1 = k)) = true := by
    rw [valV_any, h]
    all_goals rfl
  obtain ⟨p, hp, e⟩ := List.any_eq_true.mp q
  exact List.mem_map.mpr ⟨p, hp, of_decide_eq_true e⟩
theorem dropK_pos {p : κ × V} {r : List (κ × V)} {k : κ} (e : p.1 = k) : dropK (p :: r) k = dropK r k := by
  unfold dropK
  rw [List.filter_cons, if_neg (by simp [e])]
theorem dropK_neg {p : κ × V} {r : List (κ × V)} {k : κ} (e : ¬ p.1 = k) : dropK (p :: r) k = p :: dropK r k := by
  unfold dropK
  rw [List.filter_cons, if_pos (by simp [e])]
theorem dropK_mem {kvs : List (κ × V)} {k : κ} {p : κ × V} (h : p ∈ dropK kvs k) : p ∈ kvs := (List.mem_filter.mp h).1
end
end L2
set_option maxHeartbeats 4000000
namespace L2
open PySem PySem.Spec PyProof.Rows
section
variable {X : Cx} {pins : List (Addr × Obj)} {σ : St} {H : Hp} {s : Shared} {h' : Heap}
end
section
variable {X : Cx}
end
section
variable {prog : Program} {w : World} {A : Around} {E : Value → Shared → Prop} {s : Shared}
end
end L2
namespace L2
open PySem PySem.Spec PyProof.Rows
section
variable {prog : Program} {w : World} {A : Around} {E : Value → Shared → Prop} {s : Shared}
end
end L2
namespace L2
open PySem PySem.Spec PyProof.Rows
section
variable {prog : Program} {w : World} {A : Around} {E : Value → Shared → Prop} {s : Shared} {a₀ : Array Keyed} {p : Array (Nat × Nat × Nat)}
end
end L2
namespace L2
open PySem PySem.Spec PyProof.Rows
def ky (q : Keyed) : Int := numOf q.1
end L2
namespace L2
open PySem PySem.Spec PyProof.Rows
section
variable {prog : Program} {w : World} {A : Around} {E : Value → Shared → Prop} {s : Shared}
end
end L2
namespace L2
open PySem PySem.Spec PyProof.Rows
section
variable {prog : Program} {w : World} {A : Around} {E : Value → Shared → Prop} {s : Shared}
end
end L2
namespace L2
open PySem PySem.Spec PyProof.Rows
section
variable {prog : Program} {w : World} {A : Around} {E : Value → Shared → Prop} {s : Shared} {a₀ : Array Keyed} {p : Array (Nat × Nat × Nat)}
end
end L2
namespace L2
open PySem PySem.Spec PyProof.Rows
section
variable {prog : Program} {w : World} {A : Around} {E : Value → Shared → Prop} {s : Shared} {a₀ : Array Keyed}
end
end L2
namespace L2
open PySem PySem.Spec PyProof.Rows
def most : Nat := 1000
section
variable {prog : Program} {w : World} {A : Around} {E : Value → Shared → Prop} {s : Shared} {hb : Heap} {fa : Addr} {mp : Str → Option Value} {bk : List (Addr × Obj)} {a st : Addr} {xs : List Value} {ks : List Int} {ka : Array Value} {c1 c2 : Nat}
end
end L2
namespace L2
open PySem PySem.Spec PyProof.Rows
section
variable {X : Cx} {pins : List (Addr × Obj)} {σ : St} {H : Hp} {s : Shared}
end
theorem paired_get {α β : Type} {F : α → β → Prop} : ∀ {l₁ : List α} {l₂ : List β}, Paired F l₁ l₂ → ∀ {i : Nat} {a : α}, l₁[i]? = some a → ∃ b, l₂[i]? = some b ∧ F a b
  | _, _, .nil, _, _, e => by simp at e
  | _, _, .cons r _, 0, _, e => by simp at e; subst e; exact ⟨_, rfl, r⟩
  | _, _, .cons _ t, i + 1, a, e => by
    obtain ⟨b, h1, h2⟩ := paired_get t (i := i) (a := a) (by simpa using e)
    exact ⟨b, by simpa using h1, h2⟩
section
variable {X : Cx} {e : Expr} {kws : List Keyword} {t tk : TA} {p pos : Pos}
end
end L2
namespace L2
open PySem PySem.Spec PyProof.Rows
section
variable {X : Cx} {pins : List (Addr × Obj)} {σ : St} {H : Hp} {s : Shared}
end
section
variable {X : Cx}
end
section
variable {X : Cx}
end
end L2
namespace L2
open PySem PySem.Spec PyProof.Rows
end L2
namespace Strip
section
variable {M : Type} [DecidableEq M]
abbrev Row (M : Type) := Int × Int × M
def Has (r : Row M) (n : Int) : Prop := r.1 ≤ n ∧ n ≤ r.2.1
instance (r : Row M) (n : Int) : Decidable (Has r n) := by unfold Has; exact inferInstance
def Beside (r s : Row M) : Prop := r.2.1 + 1 = s.1 ∧ r.2.2 = s.2.2
instance (r s : Row M) : Decidable (Beside r s) := by unfold Beside; exact inferInstance
end
end Strip
namespace L2
open PySem PySem.Spec PyProof.Rows
section
variable {T : Addr} {pos : Pos} {q : Str} {H H' : Hp}
end
end L2
namespace L2
open PySem PySem.Spec PyProof.Rows
section
variable {X : Cx}
theorem call_isinst : CallR X (.builtin "isinstance") (fun xs H Q => ∃ x n t b, xs = [x, .ty n] ∧ TyOf X.K H x t ∧ PySem.W.kitOne X.K t (.type n) = some b ∧ Q (.bl b) H) := by
  intro pins s σ H xs us Q I r h
  obtain ⟨x, n, t, b, rfl, ty, e, q⟩ := h
  obtain ⟨u, u2, rfl, rx, rt⟩ := vals2 r
  cases (show u2 = Value.type n from rt)
  exact isinst_ok I rx ty e fun tk => ⟨.bl b, H, I.tok _, rfl, q⟩
end
theorem valV_mem {κ : Type} [DecidableEq κ] : ∀ {kvs : List (κ × V)}, (kvs.map (·.1)).Nodup → ∀ p ∈ kvs, valV kvs p.1 = some p.2
  | [], _, p, h => by cases h
  | x :: r, nd, p, h => by
    rw [List.map_cons] at nd
    obtain ⟨h1, h2⟩ := List.nodup_cons.mp nd
    rcases List.mem_cons.mp h with e | h
    · rw [e, valV_pos rfl]
    · have ne : ¬ x.1 = p.1 := fun z => h1 (by rw [z]; exact List.mem_map_of_mem h)
      rw [valV_neg ne]
      exact valV_mem h2 p h
end L2
namespace L2
open PySem PySem.Spec PyProof.Rows
end L2
namespace Strip
section
variable {M : Type} [DecidableEq M]
end
end Strip
namespace L2
open PySem PySem.Spec PyProof.Rows
def compX (X : Cx) (scope : Scope) (cl : List (Str × Addr)) (N : List Str) (C : Addr) (fp : List Addr) (s : Shared) (H : Hp) : Cx where
  prog := X.prog
  w := X.w
  K := X.K
  mg := X.mg
  base := X.base
  A := X.A
  N := N
  s₀ := s
  H₀ := H
  env := compEnvC scope cl C X.env
  outer := X.stack
  stack := X.stack
  ex := fp
  fn := fun _ => false
  calm := true
  pn := []
  xe := fun _ _ => False
def subσ (sub : List Nat) (σ : St) : St := sub.map fun i => (σ[i]?).join
def PTs (X : Cx) (ifs : List Expr) (t : TT) : Prop :=
  ∀ (pins : List (Addr × Obj)) (s : Shared) (σ : St) (H : Hp) (Q : Bool → Hp → Prop), Inv X pins σ H s → t σ H Q →
    wpAny (model X.prog X.w) X.A (forIn ifs true fun c r => if r = true then do let ok ← isTrue c X.env (eval c X.env); pure (ForInStep.yield ok) else pure (ForInStep.yield r)) (TP X pins σ Q) X.xe s
theorem pts_nil {X : Cx} : PTs X [] (fun _ H Q => Q true H) := fun _ _ _ H _ I h => wpAny_tests_nil ⟨H, I, h⟩
theorem pts_one {X : Cx} {c : Expr} {t : TT} (h : PT X c t) : PTs X [c] t := fun pins s σ H Q I q => wpAny_tests_one (h pins s σ H Q I q)
def tComp (wi : TI) (sub : List Nat) (tt : TT) (te : TE) : TE := fun σ H Q => wi σ H fun J H1 => ∀ D, H1 D = none → ∃ W : Nat → Nat → List V → Hp → Prop, (∃ m, W 0 m [] (upd H1 D (.lst []))) ∧ ∀ i m ys H2, W i m ys H2 →
  (J.stop i H2 ∧ Q (.ref D) H2) ∨ (J.go i H2 ∧ ∃ N : List V → Hp → Prop, (∀ ys' H', N ys' H' → ∃ m', m' < m ∧ W (i + 1) m' ys' H') ∧ ∀ v H3, J.yld i H2 v H3 → tt (some v :: subσ sub σ) H3 fun b H4 => if b = true then
    te (some v :: subσ sub σ) H4 fun y H5 => H5 D = some (.lst ys) ∧ ys.length < sizeLine ∧ N (ys ++ [y]) (upd H5 D (.lst (ys ++ [y])))
    else N ys H4)
def PEC (X : Cx) (e iter : Expr) (scope : Scope) (te : TE) : Prop :=
  ∀ (pos : Pos) (pins : List (Addr × Obj)) (s : Shared) (σ : St) (H : Hp) (Q : VK) (use : Option (Value → Sem Unit)) (QV : Value → Shared → Prop), Inv X pins σ H s → te σ H Q →
    (∀ (D C : Addr) (H' : Hp) (s' : Shared), Inv X pins σ H' s' → FpOk X pins H' C → (∃ m, s'.heap.Ns C m) → Q (.ref D) H' → compPost (model X.prog X.w) X.A X.xe use QV (.ref D) C (.ok .next) s') →
    wpAny (model X.prog X.w) X.A (comprehension e scope X.env pos (newList []) false (eval iter X.env) use) QV X.xe s
theorem FpOk.turn {X : Cx} {pins : List (Addr × Obj)} {σ : St} {H : Hp} {s : Shared} {h' : Heap} {C : Addr} (f : FpOk X pins H C) (I : Inv X pins σ H s) (hs : Heap.SameBut C s.heap h') : Inv X pins σ H { s with heap := h' } :=
  I.turned (h' := h') (t' := s.toks) (it := C) (fun b o n e => (hs.2 b n).trans e) f.1 f.2.1 f.2.2.2.1 f.2.2.2.2.1 f.2.2.2.2.2
theorem pe_of {X : Cx} {elt tg iter : Expr} {ifs : List Expr} {scope : Scope} {pos : Pos} {te : TE} (h : PEC X (.ListComp elt [⟨tg, iter, ifs, 0⟩] scope pos) iter scope te) : PE X (.ListComp elt [⟨tg, iter, ifs, 0⟩] scope pos) te := by
  intro pins s σ H Q I q
  rw [eval_ListComp]
  refine h _ pins s σ H Q none _ I q fun D C H' s' K1 fC ⟨m, hm⟩ q => ⟨m, hm, fun h' hsb' => ⟨.ref D, H', fC.turn K1 hsb', rfl, q⟩⟩
section
variable {prog : Program} {w : World} {A : Around} {R : Result → Shared → Prop} {s : Shared}
abbrev compE (prog : Program) (w : World) (A : Around) (env : Env) (R : Result → Shared → Prop) : Value → Shared → Prop := notedBy (model prog w) A env fun x s' => R (.error x) s'
theorem comp_turns {elt tg iter : Expr} {ifs : List Expr} {scope : Scope} {pos : Pos} {it acc : Value} {env : Env} (J : Nat → Shared → Prop)
    (go : ∀ n s, J n s → wpAny (model prog w) A (pyNext it) (fun r s1 => match r with
      | none => R (.ok .next) s1
      | some v => wpAny (model prog w) A (letOwnedTupleGo tg it v) (fun _ s1' => wpAny (model prog w) A (assign tg env v) (fun _ s2 =>
          wpAny (model prog w) A (forIn ifs true fun c r => if r = true then do let ok ← isTrue c env (eval c env); pure (ForInStep.yield ok) else pure (ForInStep.yield r)) (fun b s3 =>
            if b = true then wpAny (model prog w) A (eval elt env) (fun x s4 => wpAny (model prog w) A (call (.builtin "list.append") [acc, x]) (fun _ s5 => ∃ m, m < n ∧ J m s5) (compE prog w A env R) s4) (compE prog w A env R) s3
            else ∃ m, m < n ∧ J m s3) (compE prog w A env R) s2) (compE prog w A env R) s1') (compE prog w A env R) s1) (compE prog w A env R) s)
    (n : Nat) (h0 : J n s) : codeAny (model prog w) A (.compLoop (.ListComp elt [⟨tg, iter, ifs, 0⟩] scope pos) 0 it acc env) R s := by
  refine codeAny_loop rfl J (fun n s hI => ?_) n h0
  have e : ((compTurn (.ListComp elt [⟨tg, iter, ifs, 0⟩] scope pos) 0 it acc env).onRaise fun x => do noteFrame x env; theTreesLotGoes x) = ((compTurn (.ListComp elt [⟨tg, iter, ifs, 0⟩] scope pos) 0 it acc env).onRaise fun x => do noteFrame x env; theTreesLotGoes x) := rfl
  show wpAny _ A ((compTurn (.ListComp elt [⟨tg, iter, ifs, 0⟩] scope pos) 0 it acc env).onRaise fun x => do noteFrame x env; theTreesLotGoes x) _ _ s
  apply wpAny_noted
  rw [compTurn_list]
  refine wpAny_bind (wpAny_standAt (wpAny_bind (thn (go n s hI) fun r s1 h1 => ?_)))
  cases r with
  | none => exact wpAny_pure h1
  | some v =>
    refine wpAny_bind (thn h1 fun _ s1' h1' => wpAny_bind (thn h1' fun _ s2 h2 => wpAny_bind (thn h2 fun b s3 h3 => ?_)))
    cases b with
    | false => exact wpAny_pure ⟨rfl, h3⟩
    | true => exact wpAny_bind (wpAny_bind (thn h3 fun x s4 h4 => wpAny_bind (thn h4 fun _ s5 h5 => wpAny_pure (wpAny_pure ⟨rfl, h5⟩))))
end
def CompG (g : TG) (n : Nat) (sub : List Nat) (tt : TT) (te : TE) (σ : St) (Q : VK) (J : It) (H1 : Hp) : Prop := ∀ D, H1 D = none → ∃ W : Nat → Nat → List V → Hp → Prop, (∃ m, W 0 m [] (upd H1 D (.lst []))) ∧ ∀ i m ys H2, W i m ys H2 →
  (J.stop i H2 ∧ Q (.ref D) H2) ∨ (J.go i H2 ∧ ∃ N : List V → Hp → Prop, (∀ ys' H', N ys' H' → ∃ m', m' < m ∧ W (i + 1) m' ys' H') ∧ ∀ v H3, J.yld i H2 v H3 → ∀ τ : List (Option V), τ.length = n → g v (τ ++ subσ sub σ) H3 fun σ' H' => (∃ τ' : List (Option V), τ'.length = n ∧ σ' = τ' ++ subσ sub σ) ∧ tt σ' H' fun c H4 => if c = true then
    te σ' H4 fun y H5 => H5 D = some (.lst ys) ∧ ys.length < sizeLine ∧ N (ys ++ [y]) (upd H5 D (.lst (ys ++ [y])))
    else N ys H4)
section
variable {X : Cx}
theorem pec_compX {elt tg iter : Expr} {xn : List Str} {g : TG} {CB : St → VK → It → Hp → Prop} {pos : Pos} {ifs : List Expr} {scope : Scope} {cl : List (Str × Addr)} {sub : List Nat} {fv : List Str} {wi : TI} {tt : TT} {te : TE}
    (hc : X.calm = true) (hi : PI X tg iter wi) (hclos : closureFor scope X.env = pure cl)
    (hcell : ∀ y ∈ scope.names, y.2 ≠ .cell) (hkind : scope.kind = .function) (hnames : ∀ y ∈ scope.names, y.2 = .local → scope.names.lookup y.1 = some .local)
    (hl : sub.length = fv.length) (hsub : ∀ (j : Nat) (i : Nat) (y : Str), sub[j]? = some i → fv[j]? = some y → X.N[i]? = some y ∧ Vis X.env.scope y ∧ X.env.kindOf y ≠ some .local)
    (hvis : ∀ y ∈ fv, (compEnvC scope cl 0 X.env).kindOf y = some .cell ∨ (compEnvC scope cl 0 X.env).kindOf y = some .free)
    (hcl : ∀ y c, cl.lookup y = some c → X.env.cells.lookup y = some c) (hcl2 : ∀ y ∈ fv, cl.lookup y = X.env.cells.lookup y)
    (hhas : ∀ y, ((compEnvC scope cl 0 X.env).kindOf y = some .cell ∨ (compEnvC scope cl 0 X.env).kindOf y = some .free) → ∃ c, cl.lookup y = some c)
    (hg : ∀ C fp s H, PG (compX X scope cl (xn ++ fv) C fp s H) tg g) (ht : ∀ C fp s H, PTs (compX X scope cl (xn ++ fv) C fp s H) ifs tt) (he : ∀ C fp s H, PE (compX X scope cl (xn ++ fv) C fp s H) elt te)
    (hCB : ∀ σ Q J H1, CB σ Q J H1 → CompG g xn.length sub tt te σ Q J H1) (hs : ∀ x, foldedSetIterable iter X.env x = pure x := by intro _; rfl) : PEC X (.ListComp elt [⟨tg, iter, ifs, 0⟩] scope pos) iter scope (fun σ H Q => wi σ H fun J H1 => CB σ Q J H1) := by
  intro upos pins s σ H Q use QV I h hend
  refine wpAny_comprehension_free (use := use) rfl hs hclos hkind hnames ?_
  refine thn (hi pins s σ H _ I h) fun v s1 h1 => thn h1 fun itv s2 h2 => ?_
  obtain ⟨it, fp, tn, J, H2, e, I2, T, st2, f2, h⟩ := h2
  subst e
  refine wpAny_newList ?_ (Nat.zero_le _)
  have nD : H2 s2.heap.objs.size = none := I2.hok.fresh (Nat.le_refl _)
  obtain ⟨W, ⟨m0, w0⟩, turn⟩ := hCB _ _ _ _ h s2.heap.objs.size nD
  have I3 := I2.lnew (ys := []) (its := []) (t' := s2.toks) .nil (Nat.zero_le _)
  generalize hs3 : ({ s2 with heap := s2.heap.push { cls := .type "list", data := .seq ([] : List Value).toArray }, toks := s2.toks } : Shared) = s3 at I3
  have hDlt : s2.heap.objs.size < s3.heap.objs.size := by rw [← hs3]; show _ < (s2.heap.push _).objs.size; rw [Heap.size_push]; exact Nat.lt_succ_self _
  have old3 : ∀ b o, s2.heap.get? b = some o → s3.heap.get? b = some o := fun b o e => by rw [← hs3]; exact Heap.get?_push_of_some _ e
  generalize hD : s2.heap.objs.size = D at *
  refine wpAny_newFunctionEnv hcell (by intro y hy; simp at hy) (fun h₁ hns hsb => ?_) hkind
  generalize hC : s3.heap.objs.size = C at *
  have kept : ∀ b o, s3.heap.get? b = some o → h₁.get? b = some o := fun b o e => (hsb.2 b (by rw [← hC]; exact Nat.ne_of_lt (Heap.lt_size e))).trans (Heap.get?_push_of_some _ e)
  have nC : upd H2 D (.lst []) C = none := I3.hok.fresh (Nat.le_of_eq hC)
  have fC : FpOk X pins (upd H2 D (.lst [])) C := I3.fpOk (Nat.le_of_eq hC) nC
  have fp3 : ∀ b ∈ fp, b < s2.heap.objs.size := fun b hb => by obtain ⟨o, e, _⟩ := T.obj _ _ st2 b hb; exact Heap.lt_size e
  have fpC : ∀ b ∈ fp, b ≠ C := fun b hb => by rw [← hC]; exact Nat.ne_of_lt (Nat.lt_of_lt_of_le (fp3 b hb) (by rw [hD]; exact Nat.le_of_lt (hC ▸ hDlt)))
  have fpD : ∀ b ∈ fp, b ≠ D := fun b hb => by rw [← hD]; exact Nat.ne_of_lt (fp3 b hb)
  have ok' : (compX X scope cl (xn ++ fv) C fp s3 (upd H2 D (.lst []))).Ok := by
    refine ⟨I.ok.mod, hkind, I.ok.glob, I.ok.blt, Nat.le_of_eq hC, fun y z c e1 e2 => I.ok.inj y z c (hcl y c e1) (hcl z c e2), fun y hy => hhas y hy, (fun y c e _ => by cases e), fun _ => I.ok.hd hc, I.ok.frames, .inl rfl, fun b hb => ⟨fpC b hb, fun y c e => (f2 b hb).2.2.2.2.1 y c (hcl y c e)⟩, I3.bs, Nat.le_trans I.ok.bsz I3.sz,
      fun b o e hb => ?_, fun b hb hf => ?_, I3.stack, I3.stkFree⟩
    · rcases (f2 b hb).2.2.2.1 with z | z
      · exact I.ok.noex b o e z
      · exact absurd (Nat.lt_of_lt_of_le (Heap.lt_size e) (Nat.le_trans I.ok.bsz z)) (Nat.lt_irrefl _)
    · rcases List.mem_cons.mp (I3.stkSub b hf) with z | z
      · exact (f2 b hb).2.1 z
      · exact (f2 b hb).2.2.1 z
  have lenσ : ∀ τ : List (Option V), τ.length = xn.length → (τ ++ subσ sub σ).length = (xn ++ fv).length := fun τ ht => by
    unfold subσ
    rw [List.length_append, List.length_append, List.length_map, hl, ht]
  have I4 : ∀ t', Inv (compX X scope cl (xn ++ fv) C fp s3 (upd H2 D (.lst []))) [] (List.replicate xn.length none ++ subσ sub σ) (upd H2 D (.lst [])) { s3 with heap := h₁, toks := t' } := fun t' => by
    refine ⟨ok', rfl, I3.bare, Un.kept kept, ⟨_, hns, fun i y v e1 e2 e3 => ?_⟩, fun y c e => ?_, nC, fun y c e => I3.freeC y c (hcl y c e), (fun p hp => by cases hp), I3.hok.kept kept, lenσ _ (List.length_replicate ..)⟩
    · by_cases hi : i < xn.length
      · rw [List.getElem?_append_left (by rw [List.length_replicate]; exact hi), List.getElem?_replicate, if_pos hi] at e2
        cases e2
      · have e1 : (xn ++ fv)[i]? = some y := e1
        rw [List.getElem?_append_right (by omega)] at e1
        rw [List.getElem?_append_right (by rw [List.length_replicate]; omega), List.length_replicate] at e2
        generalize i - xn.length = j at e1 e2
        unfold subσ at e2
        rw [List.getElem?_map] at e2
        cases ei : sub[j]? with
        | none => rw [ei] at e2; cases e2
        | some i =>
          rw [ei] at e2
          have e2 : (σ[i]?).join = some v := Option.some.inj e2
          obtain ⟨n1, n2, n3⟩ := hsub j i y ei e1
          have e4 : σ[i]? = some (some v) := by
            cases q : σ[i]? with
            | none => rw [q] at e2; cases e2
            | some w' => rw [q] at e2; cases w' with
              | none => cases e2
              | some v' => cases e2; rfl
          obtain ⟨m, hn, hl'⟩ := I3.loc
          obtain ⟨u, ru, lu⟩ := hl' i y v n1 e4 n2
          refine ⟨u, ru, ?_⟩
          rcases lu with ⟨k1, _⟩ | ⟨k1, c, ec, ic⟩
          · exact absurd k1 n3
          · have hy := List.mem_of_getElem? e1
            exact .inr ⟨hvis y hy, c, (hcl2 y hy).trans ec, ic.keeps kept⟩
    · obtain ⟨v, z⟩ := I3.cell y c (hcl y c e)
      exact ⟨v, z.keeps kept⟩
  have back : ∀ {σ' : St} {H' : Hp} {s' : Shared}, Inv (compX X scope cl (xn ++ fv) C fp s3 (upd H2 D (.lst []))) [] σ' H' s' → Q (.ref D) H' →
      compPost (model X.prog X.w) X.A X.xe use QV (.ref D) C (.ok .next) s' := fun {σ' H' s'} J' q => by
    obtain ⟨m, hm, _⟩ := id J'.loc
    have hos : s'.os = s3.os := J'.os
    have K1 : Inv X pins σ H' s' := I3.call' (ch := fp) hos J'.base J'.hok J'.bare fun b hb => ⟨(f2 b hb).2.2.2.1, (f2 b hb).2.1, (f2 b hb).2.2.2.2.1, (f2 b hb).2.2.2.2.2⟩
    exact hend D C H' s' K1 ⟨J'.free, fC.2⟩ ⟨m, hm⟩ q
  have stat : ∀ {H' : Hp}, (∀ b ∈ fp, H' b = none) → ∀ b ∈ fp, FpOk (compX X scope cl (xn ++ fv) C fp s3 (upd H2 D (.lst []))) [] H' b := fun hn b hb =>
    ⟨hn b hb, fpC b hb, ok'.exfs b hb, .inl hb, (ok'.exf b hb).2, (fun p hp => by cases hp)⟩
  have loop : ∀ t', codeAny (model X.prog X.w) X.A (.compLoop (.ListComp elt [⟨tg, iter, ifs, 0⟩] scope pos) 0 (.ref it) (.ref D) (compEnvC scope cl C X.env)) (compPost (model X.prog X.w) X.A X.xe use QV (.ref D) C) { s3 with heap := h₁, toks := t' } := fun t' => by
    refine comp_turns (fun n s' => ∃ (i : Nat) (ys : List V) (H' : Hp) (τ : List (Option V)), τ.length = xn.length ∧ Inv (compX X scope cl (xn ++ fv) C fp s3 (upd H2 D (.lst []))) [] (τ ++ subσ sub σ) H' s' ∧ tn i s'.heap ∧ (∀ b ∈ fp, H' b = none) ∧ W i n ys H') ?_ m0
      ⟨0, [], _, _, List.length_replicate .., I4 t', T.keep _ _ _ st2 (fun b hb o e => kept b o (old3 b o e)), fun b hb => by rw [upd_ne (fpD b hb)]; exact (f2 b hb).1, w0⟩
    rintro n s5 ⟨i, ys, H5, τ, hτ, I5, st5, fr5, w5⟩
    rcases turn i n ys H5 w5 with ⟨stop, q⟩ | ⟨go, NN, hNN, step⟩
    · refine wpAny_mono (T.done (compX X scope cl (xn ++ fv) C fp s3 (upd H2 D (.lst []))) rfl rfl rfl rfl i [] s5 _ H5 (fun _ _ => False) I5 (stat fr5) st5 stop) (fun r s6 hh => ?_) fun _ _ f => f.elim
      obtain ⟨hr, I6⟩ := hh
      subst hr
      exact back I6 q
    · refine wpAny_mono (T.item (compX X scope cl (xn ++ fv) C fp s3 (upd H2 D (.lst []))) rfl rfl rfl rfl i [] s5 _ H5 (fun _ _ => False) I5 (stat fr5) st5 go) (fun r s6 hh => ?_) fun _ _ f => f.elim
      obtain ⟨u, hr, h6⟩ := hh
      subst hr
      refine wpAny_mono h6 (fun _ s7 hh => ?_) fun _ _ f => f.elim
      obtain ⟨v, H7, I7, r7, y7, st7, fr7⟩ := hh
      have I7' := I7.pinned (stat fr7) (T.obj _ _ st7)
      refine wpAny_mono (hg C fp s3 _ _ s7 _ H7 v u _ I7' r7 (step v H7 y7 τ hτ)) (fun _ s8 hh => ?_) fun _ _ f => f.elim
      obtain ⟨_, H8, I8, ⟨τ', hτ', rfl⟩, step⟩ := hh
      have again : ∀ {H9 : Hp} {s9 : Shared} {ys9 : List V} {m9 : Nat}, Inv (compX X scope cl (xn ++ fv) C fp s3 (upd H2 D (.lst []))) ([] ++ pinsAt fp s7.heap) (τ' ++ subσ sub σ) H9 s9 → m9 < n → W (i + 1) m9 ys9 H9 →
          ∃ m, m < n ∧ ∃ (i : Nat) (ys : List V) (H' : Hp) (τ : List (Option V)), τ.length = xn.length ∧ Inv (compX X scope cl (xn ++ fv) C fp s3 (upd H2 D (.lst []))) [] (τ ++ subσ sub σ) H' s9 ∧ tn i s9.heap ∧ (∀ b ∈ fp, H' b = none) ∧ W i m ys H' := fun {H9 s9 ys9 m9} I9 hm w9 => by
        refine ⟨m9, hm, i + 1, ys9, H9, _, hτ', I9.unpinned, T.keep _ _ _ st7 fun b hb o e => (I9.pin (b, o) (List.mem_append_right _ (List.mem_append_right _ (mem_pinsAt hb e)))).1, fun b hb => ?_, w9⟩
        obtain ⟨o, e, d⟩ := T.obj _ _ st7 b hb
        exact (I9.pin (b, o) (List.mem_append_right _ (List.mem_append_right _ (mem_pinsAt hb e)))).2.1
      refine wpAny_mono (ht C fp s3 _ _ s8 _ H8 _ I8 step) (fun ok s9 hh => ?_) fun _ _ f => f.elim
      obtain ⟨H9, I9, q9⟩ := hh
      cases ok with
      | false =>
        rw [if_neg Bool.false_ne_true] at q9 ⊢
        obtain ⟨m', hm, w'⟩ := hNN _ _ q9
        exact again I9 hm w'
      | true =>
        rw [if_pos rfl] at q9 ⊢
        refine wpAny_mono (he C fp s3 _ _ s9 _ H9 _ I9 q9) (fun xv sa hh => ?_) fun _ _ f => f.elim
        obtain ⟨y, Ha, Ia, ra, hDa, hsz, qa⟩ := hh
        obtain ⟨m', hm, w'⟩ := hNN _ _ qa
        refine wpAny_mono (mt_append (X := compX X scope cl (xn ++ fv) C fp s3 (upd H2 D (.lst []))) _ sa _ Ha (.ref D) [y] (.ref D) [xv] (fun _ H' => H' = upd Ha D (.lst (ys ++ [y]))) Ia rfl (.cons ra .nil) ⟨D, ys, y, rfl, rfl, hDa, hsz, rfl⟩) (fun _ sb hh => ?_) fun _ _ f => f.elim
        obtain ⟨_, Hb, Ib, _, rfl⟩ := hh
        exact again Ib hm w'
  exact codeAny_compStart_list (loop _) (T.self X.A 0 _ _ _ (T.keep _ _ _ st2 (fun b hb o e => kept b o (old3 b o e))) (loop _))
theorem pec_comp {elt iter : Expr} {x : Str} {px pos : Pos} {ifs : List Expr} {scope : Scope} {cl : List (Str × Addr)} {sub : List Nat} {fv : List Str} {wi : TI} {tt : TT} {te : TE}
    (hc : X.calm = true) (hi : PI X (.Name x px) iter wi) (hclos : closureFor scope X.env = pure cl)
    (hcell : ∀ y ∈ scope.names, y.2 ≠ .cell) (hkind : scope.kind = .function) (hnames : ∀ y ∈ scope.names, y.2 = .local → scope.names.lookup y.1 = some .local) (hx : scope.names.lookup x = some .local)
    (hnd : (x :: fv).Nodup) (hl : sub.length = fv.length) (hsub : ∀ (j : Nat) (i : Nat) (y : Str), sub[j]? = some i → fv[j]? = some y → X.N[i]? = some y ∧ Vis X.env.scope y ∧ X.env.kindOf y ≠ some .local)
    (hvis : ∀ y ∈ fv, (compEnvC scope cl 0 X.env).kindOf y = some .cell ∨ (compEnvC scope cl 0 X.env).kindOf y = some .free)
    (hcl : ∀ y c, cl.lookup y = some c → X.env.cells.lookup y = some c) (hcl2 : ∀ y ∈ fv, cl.lookup y = X.env.cells.lookup y)
    (hhas : ∀ y, ((compEnvC scope cl 0 X.env).kindOf y = some .cell ∨ (compEnvC scope cl 0 X.env).kindOf y = some .free) → ∃ c, cl.lookup y = some c)
    (ht : ∀ C fp s H, PTs (compX X scope cl (x :: fv) C fp s H) ifs tt) (he : ∀ C fp s H, PE (compX X scope cl (x :: fv) C fp s H) elt te)
    (hs : ∀ x, foldedSetIterable iter X.env x = pure x := by intro _; rfl) : PEC X (.ListComp elt [⟨.Name x px, iter, ifs, 0⟩] scope pos) iter scope (tComp wi sub tt te) := by
  refine pec_compX (xn := [x]) (g := gName 0) hc hi hclos hcell hkind hnames hl hsub hvis hcl hcl2 hhas (fun C fp s H => pg_name (i := 0) hnd rfl (.inl (lookup_relabel_local hx)) (.inr (lookup_relabel_local hx))) ht he (fun σ Q J H1 h D nD => ?_) hs
  obtain ⟨W, w0, st⟩ := h D nD
  refine ⟨W, w0, fun i m ys H2 hw => (st i m ys H2 hw).imp id fun ⟨go, N, hN, h⟩ => ⟨go, N, hN, fun v H3 y τ hτ => ?_⟩⟩
  match τ, hτ with
  | [t0], _ => exact ⟨⟨[some v], rfl, rfl⟩, h v H3 y⟩
end
end L2
namespace Strip
section
variable {M : Type} [DecidableEq M]
end
end Strip
namespace L2
open PySem PySem.Spec PyProof.Rows
section
variable {X : Cx} {pins : List (Addr × Obj)} {σ : St} {H : Hp} {s : Shared}
end
section
variable {X : Cx}
end
end L2
namespace L2
open PySem PySem.Spec PyProof.Rows
theorem comp_list {K : PySem.W.Frag} {a D : Addr} {xs : List V} {σ : St} {sub : List Nat} {tt : TT} {te : TE} {Q : VK} {H : Hp} (Pv : Nat → List V → Hp → Prop) (h0 : Pv 0 [] (upd H D (.lst []))) (hl : ∀ i ys H, i ≤ xs.length → Pv i ys H → SqL K H a xs)
    (hs : ∀ i x ys H, xs[i]? = some x → Pv i ys H → tt (some x :: subσ sub σ) H fun b H4 => if b = true then te (some x :: subσ sub σ) H4 fun y H5 => H5 D = some (.lst ys) ∧ ys.length < sizeLine ∧ Pv (i + 1) (ys ++ [y]) (upd H5 D (.lst (ys ++ [y]))) else Pv (i + 1) ys H4)
    (hd : ∀ ys H, Pv xs.length ys H → Q (.ref D) H) :
    ∃ W : Nat → Nat → List V → Hp → Prop, (∃ m, W 0 m [] (upd H D (.lst []))) ∧ ∀ i m ys H2, W i m ys H2 →
      ((Itl K a).stop i H2 ∧ Q (.ref D) H2) ∨ ((Itl K a).go i H2 ∧ ∃ N : List V → Hp → Prop, (∀ ys' H', N ys' H' → ∃ m', m' < m ∧ W (i + 1) m' ys' H') ∧ ∀ v H3, (Itl K a).yld i H2 v H3 → tt (some v :: subσ sub σ) H3 fun b H4 => if b = true then
        te (some v :: subσ sub σ) H4 fun y H5 => H5 D = some (.lst ys) ∧ ys.length < sizeLine ∧ N (ys ++ [y]) (upd H5 D (.lst (ys ++ [y])))
        else N ys H4) := by
  refine ⟨fun i m ys H => m = xs.length - i ∧ i ≤ xs.length ∧ Pv i ys H, ⟨xs.length, rfl, Nat.zero_le _, h0⟩, ?_⟩
  rintro i m ys H ⟨rfl, hi, p⟩
  have q := hl i ys H hi p
  by_cases hlt : i < xs.length
  · refine .inr ⟨⟨xs, xs[i], q, by simp [hlt]⟩, Pv (i + 1), fun ys' H' p' => ⟨xs.length - (i + 1), by omega, rfl, hlt, p'⟩, fun x H' y => ?_⟩
    obtain ⟨e, y⟩ := y
    subst e
    exact hs i x ys _ (y xs q) p
  · have e : i = xs.length := by omega
    subst e
    exact .inl ⟨⟨xs, q, Nat.le_refl _⟩, hd ys H p⟩
end L2
namespace L2
open PySem PySem.Spec PyProof.Rows
end L2
namespace L2
open PySem PySem.Spec PyProof.Rows
section
variable {X : Cx}
def Its (x : Str) : It := ⟨fun i _ => i < x.cps.size, fun i H v H' => H' = H ∧ ∃ c, x.cps[i]? = some c ∧ v = .str ⟨#[c]⟩, fun i _ => x.cps.size ≤ i⟩
theorem turn_ascii {P : Program} {w : World} {K : PySem.W.Frag} {tg : Expr} (x : Str) (t : Tok) (it : Addr) : Turn P w K tg (Its x) [it] it (fun i h => h.IsStrIter it "str_ascii_iterator" x t i) where
  mem := by simp
  obj := fun i h st b hb => by
    have e : b = it := by simpa using hb
    subst e
    obtain ⟨o, e, c, d⟩ := st
    exact ⟨o, e, fun v z => by rw [d] at z; cases z⟩
  keep := fun i h h' st k => let ⟨o, ho, r⟩ := st; ⟨o, k it (by simp) o ho, r⟩
  item := by
    intro X hP hw hK hc i pins s σ H E I hf st hg
    subst hP hw hK
    have hg : i < x.cps.size := hg
    obtain ⟨f0, f1, f2, f3, f4, f5⟩ := hf it (by simp)
    refine wpAny_pyNext_ascii_item st (c := x.cps[i]) (by simp [hg]) fun h' st' sb => ?_
    have I1 : Inv X pins σ H { s with heap := h', toks := s.toks + 1 } := I.turned (fun b o hb e => (sb.2 b hb).trans e) f0 f1 f3 f4 f5
    obtain ⟨o, e, c, d⟩ := id st'
    exact ⟨_, rfl, go_of (s := { s with heap := h', toks := s.toks + 1 }) e c d (by decide) ⟨.str ⟨#[x.cps[i]]⟩, H, I1, ⟨_, rfl⟩, ⟨rfl, _, by simp [hg], rfl⟩, st', fun b hb => (hf b hb).1⟩⟩
  done := by
    intro X hP hw hK hc i pins s σ H E I hf st hg
    subst hP hw hK
    have hg : x.cps.size ≤ i := hg
    obtain ⟨f0, f1, f2, f3, f4, f5⟩ := hf it (by simp)
    exact wpAny_pyNext_ascii_end (I.ok.hd hc) st (by simp; omega) fun h' eb => ⟨rfl, I.turned (t' := s.toks) (fun b o hb e => eb b o hb e) f0 f1 f3 f4 f5⟩
  self := fun _ _ _ _ _ st h => wpAny_pyIter_striter_ascii st h
theorem turn_wide {P : Program} {w : World} {K : PySem.W.Frag} {tg : Expr} (x : Str) (t : Tok) (it : Addr) : Turn P w K tg (Its x) [it] it (fun i h => h.IsStrIter it "str_iterator" x t i) where
  mem := by simp
  obj := fun i h st b hb => by
    have e : b = it := by simpa using hb
    subst e
    obtain ⟨o, e, c, d⟩ := st
    exact ⟨o, e, fun v z => by rw [d] at z; cases z⟩
  keep := fun i h h' st k => let ⟨o, ho, r⟩ := st; ⟨o, k it (by simp) o ho, r⟩
  item := by
    intro X hP hw hK hc i pins s σ H E I hf st hg
    subst hP hw hK
    have hg : i < x.cps.size := hg
    obtain ⟨f0, f1, f2, f3, f4, f5⟩ := hf it (by simp)
    refine wpAny_pyNext_wide_item st (c := x.cps[i]) (by simp [hg]) fun h' st' sb => ?_
    have I1 : Inv X pins σ H { s with heap := h', toks := s.toks + 1 } := I.turned (fun b o hb e => (sb.2 b hb).trans e) f0 f1 f3 f4 f5
    obtain ⟨o, e, c, d⟩ := id st'
    exact ⟨_, rfl, go_of (s := { s with heap := h', toks := s.toks + 1 }) e c d (by decide) ⟨.str ⟨#[x.cps[i]]⟩, H, I1, ⟨_, rfl⟩, ⟨rfl, _, by simp [hg], rfl⟩, st', fun b hb => (hf b hb).1⟩⟩
  done := by
    intro X hP hw hK hc i pins s σ H E I hf st hg
    subst hP hw hK
    have hg : x.cps.size ≤ i := hg
    obtain ⟨f0, f1, f2, f3, f4, f5⟩ := hf it (by simp)
    exact wpAny_pyNext_wide_end (I.ok.hd hc) st (by simp; omega) fun h' eb => ⟨rfl, I.turned (t' := s.toks) (fun b o hb e => eb b o hb e) f0 f1 f3 f4 f5⟩
  self := fun _ _ _ _ _ st h => wpAny_pyIter_striter_wide st h
def iStr (tl : TE) : TI := fun σ H R => tl σ H fun v H1 => ∃ x, v = .str x ∧ R (Its x) H1
theorem pi_str {tg l : Expr} {tl : TE} (hl : PE X l tl) : PI X tg l (iStr tl) := by
  intro pins s σ H R I h
  refine thn (hl pins s σ H _ I h) fun v s1 ⟨y, H1, I1, r1, q1⟩ => ?_
  obtain ⟨x, e, q⟩ := q1
  subst e
  obtain ⟨t, rfl⟩ := r1
  have fp : ∀ b ∈ [s1.heap.objs.size], FpOk X pins H1 b := fun b hb => by
    have e : b = s1.heap.objs.size := by simpa using hb
    subst e
    exact I1.fpOk (Nat.le_refl _) (I1.hok.fresh (Nat.le_refl _))
  cases ha : x.cps.all (· < 128)
  · refine wpAny_pyIter_wide ha ?_
    exact ⟨s1.heap.objs.size, [s1.heap.objs.size], _, _, H1, rfl, I1.kept (t' := s1.toks) fun b o e => Heap.get?_push_of_some _ e, turn_wide x t _, ⟨_, Heap.get?_push_size _ rfl, rfl, rfl⟩, fp, q⟩
  · refine wpAny_pyIter_ascii ha ?_
    exact ⟨s1.heap.objs.size, [s1.heap.objs.size], _, _, H1, rfl, I1.kept (t' := s1.toks) fun b o e => Heap.get?_push_of_some _ e, turn_ascii x t _, ⟨_, Heap.get?_push_size _ rfl, rfl, rfl⟩, fp, q⟩
theorem comp_str {x : Str} {D : Addr} {σ : St} {sub : List Nat} {tt : TT} {te : TE} {Q : VK} {H : Hp} (Pv : Nat → List V → Hp → Prop) (h0 : Pv 0 [] (upd H D (.lst [])))
    (hs : ∀ i c ys H, x.cps[i]? = some c → Pv i ys H → tt (some (.str ⟨#[c]⟩) :: subσ sub σ) H fun b H4 => if b = true then te (some (.str ⟨#[c]⟩) :: subσ sub σ) H4 fun y H5 => H5 D = some (.lst ys) ∧ ys.length < sizeLine ∧ Pv (i + 1) (ys ++ [y]) (upd H5 D (.lst (ys ++ [y]))) else Pv (i + 1) ys H4)
    (hd : ∀ ys H, Pv x.cps.size ys H → Q (.ref D) H) :
    ∃ W : Nat → Nat → List V → Hp → Prop, (∃ m, W 0 m [] (upd H D (.lst []))) ∧ ∀ i m ys H2, W i m ys H2 →
      ((Its x).stop i H2 ∧ Q (.ref D) H2) ∨ ((Its x).go i H2 ∧ ∃ N : List V → Hp → Prop, (∀ ys' H', N ys' H' → ∃ m', m' < m ∧ W (i + 1) m' ys' H') ∧ ∀ v H3, (Its x).yld i H2 v H3 → tt (some v :: subσ sub σ) H3 fun b H4 => if b = true then
        te (some v :: subσ sub σ) H4 fun y H5 => H5 D = some (.lst ys) ∧ ys.length < sizeLine ∧ N (ys ++ [y]) (upd H5 D (.lst (ys ++ [y])))
        else N ys H4) := by
  refine ⟨fun i m ys H => m = x.cps.size - i ∧ i ≤ x.cps.size ∧ Pv i ys H, ⟨_, rfl, Nat.zero_le _, h0⟩, ?_⟩
  rintro i m ys H ⟨rfl, hi, p⟩
  by_cases hlt : i < x.cps.size
  · refine .inr ⟨hlt, Pv (i + 1), fun ys' H' p' => ⟨_, by omega, rfl, hlt, p'⟩, fun v H' y => ?_⟩
    obtain ⟨rfl, c, ec, rfl⟩ := y
    exact hs i c ys _ ec p
  · have e : i = x.cps.size := by omega
    subst e
    exact .inl ⟨Nat.le_refl _, hd ys H p⟩
end
end L2
namespace L2
open PySem PySem.Spec PyProof.Rows
section
variable {X : Cx}
theorem call_allB (hc : X.calm = true) : CallR X (.builtin "all") (fun xs H Q => ∃ (a : Addr) (bs : List Bool), xs = [.ref a] ∧ SqL X.K H a (bs.map V.bl) ∧ Q (.bl (bs.all id)) H) := by
  intro pins s σ H xs us Q I r h
  obtain ⟨a, bs, rfl, hS, q⟩ := h
  obtain ⟨u, rfl, ru⟩ := vals1 r
  cases (show u = Value.ref a from ru)
  obtain ⟨its, rv, p, hz⟩ := I.list hS
  have hlen := rv.length
  rw [List.length_map] at hlen
  have hne : a ≠ s.heap.objs.size := fun z => by
    obtain ⟨o, e, _⟩ := p.isList
    exact Nat.lt_irrefl _ (z ▸ Heap.lt_size e)
  obtain ⟨f0, f1, f2, f3, f4, f5⟩ := I.fpOk (Nat.le_refl _) (I.hok.fresh (Nat.le_refl _))
  refine call_all_walk (wpAny_pyIter_list p.isList ?_)
  have I1 := fun o => I.kept (h' := s.heap.push o) (t' := s.toks) fun b ob e => Heap.get?_push_of_some _ e
  refine ⟨s.heap.objs.size, _, _, _, _, _, fun i => bs.getD i false, rfl, Walks.list (A := X.A.in1) (I.ok.hd hc) _ a hne its.toArray, ⟨⟨_, Heap.get?_push_size _ rfl, rfl, rfl⟩, p.isList.at fun o e => Heap.get?_push_of_some _ e⟩, ?_, fun h' tk hk => ?_⟩
  · intro i v s' Q' E' hv hQ
    have hv : its[i]? = some v := by simpa using hv
    have hi : i < bs.length := by rw [hlen]; exact (List.getElem?_eq_some_iff.mp hv).1
    obtain ⟨u', hu, ru'⟩ := rv.get (i := i) (x := V.bl bs[i]) (by rw [List.getElem?_map, List.getElem?_eq_getElem hi]; rfl)
    rw [hv] at hu
    cases hu
    cases (show v = Value.bool bs[i] from ru')
    have e : bs.getD i false = bs[i] := by rw [List.getD_eq_getElem?_getD, List.getElem?_eq_getElem hi]; rfl
    have hQ : Q' (bs.getD i false) s' := hQ
    rw [e] at hQ
    exact wpAny_truthy_bool hQ
  · refine ⟨.bl _, H, (I1 _).turned (t' := tk) (fun b o hb e => hk b o (by simpa using hb) e) f0 f1 f3 f4 f5, rfl, ?_⟩
    have e : (List.range its.toArray.size).all (fun i => bs.getD i false) = bs.all id := by
      rw [List.size_toArray, ← hlen]
      rw [Bool.eq_iff_iff, List.all_eq_true, List.all_eq_true]
      constructor
      · intro h b hb
        obtain ⟨i, hi, rfl⟩ := List.getElem_of_mem hb
        have := h i (List.mem_range.mpr hi)
        rw [List.getD_eq_getElem?_getD, List.getElem?_eq_getElem hi] at this
        exact this
      · intro h i hi
        have hi := List.mem_range.mp hi
        rw [List.getD_eq_getElem?_getD, List.getElem?_eq_getElem hi]
        exact h _ (List.getElem_mem hi)
    rw [e]
    exact q
theorem lookup_at {α : Type} : ∀ {l : List (Str × α)} {z : Str} {k : α}, l.lookup z = some k → ∃ p ∈ l, z = p.1 ∧ p.2 = k
  | [], _, _, e => by cases e
  | (n, k') :: r, z, k, e => by
    rw [List.lookup_cons] at e
    split at e
    · rename_i h
      cases e
      exact ⟨(n, k'), List.mem_cons_self, eq_of_beq h, rfl⟩
    · obtain ⟨p, hp, q⟩ := lookup_at e
      exact ⟨p, List.mem_cons_of_mem _ hp, q⟩
theorem pe_comp1 {elt iter : Expr} {x y : Str} {c : Addr} {i : Nat} {px pos : Pos} {ifs : List Expr} {scope : Scope} {wi : TI} {tt : TT} {te : TE}
    (hc : X.calm = true) (hi : PI X (.Name x px) iter wi) (hclos : closureFor scope X.env = pure [(y, c)]) (hkind : scope.kind = .function)
    (hall : ∀ p ∈ scope.names, p.2 = .local ∨ (p.1 = y ∧ p.2 = .free)) (hnames : ∀ p ∈ scope.names, p.2 = .local → scope.names.lookup p.1 = some .local) (hx : scope.names.lookup x = some .local)
    (hxy : x ≠ y) (hN : X.N[i]? = some y) (hv : Vis X.env.scope y) (hk : X.env.kindOf y ≠ some .local)
    (hvis : (compEnvC scope [(y, c)] 0 X.env).kindOf y = some .cell ∨ (compEnvC scope [(y, c)] 0 X.env).kindOf y = some .free) (hcy : X.env.cells.lookup y = some c)
    (ht : ∀ C fp s H, PTs (compX X scope [(y, c)] [x, y] C fp s H) ifs tt) (he : ∀ C fp s H, PE (compX X scope [(y, c)] [x, y] C fp s H) elt te)
    (hs : ∀ x, foldedSetIterable iter X.env x = pure x := by intro _; rfl) : PE X (.ListComp elt [⟨.Name x px, iter, ifs, 0⟩] scope pos) (tComp wi [i] tt te) := by
  have one : ∀ {z c'}, [(y, c)].lookup z = some c' → z = y ∧ c' = c := fun {z c'} e => by
    obtain ⟨p, hp, e1, e2⟩ := lookup_at e
    cases List.mem_singleton.mp hp
    exact ⟨e1, e2.symm⟩
  have self : [(y, c)].lookup y = some c := by rw [List.lookup_cons]; simp
  refine pe_of ?_
  refine pec_comp (cl := [(y, c)]) (fv := [y]) hc hi hclos (fun p hp z => ?_) hkind hnames hx ?_ rfl (fun j k z e1 e2 => ?_) (fun z hz => ?_) (fun z c' e => ?_) (fun z hz => ?_) (fun z hz => ?_) ht he hs
  · rcases hall p hp with q | ⟨_, q⟩ <;> rw [q] at z <;> cases z
  · exact List.nodup_cons.mpr ⟨fun h => hxy (List.mem_singleton.mp h), List.nodup_cons.mpr ⟨(fun h => nomatch h), List.nodup_nil⟩⟩
  · cases j with
    | zero => cases e1; cases e2; exact ⟨hN, hv, hk⟩
    | succ j => cases e1
  · cases List.mem_singleton.mp hz
    exact hvis
  · obtain ⟨rfl, rfl⟩ := one e
    exact hcy
  · cases List.mem_singleton.mp hz
    rw [self, hcy]
  · have far : ∀ k, (k = .cell ∨ k = .free) → (compEnvC scope [(y, c)] 0 X.env).kindOf z = some k → ∃ c', [(y, c)].lookup z = some c' := fun k hkk e => by
      obtain ⟨p, hp, e1, e2⟩ := lookup_at (show (scope.names.map _).lookup z = some k from e)
      obtain ⟨⟨n, kk⟩, hq, rfl⟩ := List.mem_map.mp hp
      rcases hall _ hq with q | ⟨q, _⟩
      · have q : kk = .local := q
        subst q
        have e2 : NameKind.local = k := e2
        rcases hkk with r | r <;> rw [r] at e2 <;> cases e2
      · have q : n = y := q
        subst q
        refine ⟨c, ?_⟩
        have : z = n := by
          rw [e1]
          dsimp only
          split <;> rfl
        rw [this]
        exact self
    rcases hz with e | e
    · exact far _ (.inl rfl) e
    · exact far _ (.inr rfl) e
end
end L2
namespace L2
open PySem PySem.Spec PyProof.Rows
end L2
namespace L2
open PySem PySem.Spec PyProof.Rows
end L2
namespace Strip
section
variable {M : Type} [DecidableEq M]
end
end Strip
namespace L2
open PySem PySem.Spec PyProof.Rows
abbrev BoxV := Str × Int × Int × V × V
end L2
namespace Strip
open L2 PySem
end Strip
namespace L2
open PySem PySem.Spec PyProof.Rows
inductive Caps (X : Cx) (scope : Scope) (cl0 : List (Str × Addr)) : List (Str × Addr) → List Nat → Prop
  | nil : Caps X scope cl0 [] []
  | cons {y : Str} {c : Addr} {i : Nat} {cl : List (Str × Addr)} {sub : List Nat} (hN : X.N[i]? = some y) (hv : Vis X.env.scope y) (hk : X.env.kindOf y ≠ some .local)
      (hvis : (compEnvC scope cl0 0 X.env).kindOf y = some .cell ∨ (compEnvC scope cl0 0 X.env).kindOf y = some .free) (hc : X.env.cells.lookup y = some c) (t : Caps X scope cl0 cl sub) : Caps X scope cl0 ((y, c) :: cl) (i :: sub)
section
variable {X : Cx} {scope : Scope} {cl0 : List (Str × Addr)}
theorem Caps.len : ∀ {cl : List (Str × Addr)} {sub : List Nat}, Caps X scope cl0 cl sub → sub.length = (cl.map (·.1)).length
  | _, _, .nil => rfl
  | _, _, .cons _ _ _ _ _ t => congrArg (· + 1) t.len
theorem Caps.at : ∀ {cl : List (Str × Addr)} {sub : List Nat}, Caps X scope cl0 cl sub → ∀ (j i : Nat) (y : Str), sub[j]? = some i → (cl.map (·.1))[j]? = some y → X.N[i]? = some y ∧ Vis X.env.scope y ∧ X.env.kindOf y ≠ some .local
  | _, _, .nil, _, _, _, e, _ => by simp at e
  | _, _, .cons hN hv hk _ _ t, j, i, y, e1, e2 => by
    cases j with
    | zero =>
      simp at e1 e2
      subst e1 e2
      exact ⟨hN, hv, hk⟩
    | succ j => exact t.at j i y (by simpa using e1) (by simpa using e2)
theorem Caps.vis : ∀ {cl : List (Str × Addr)} {sub : List Nat}, Caps X scope cl0 cl sub → ∀ y ∈ cl.map (·.1), (compEnvC scope cl0 0 X.env).kindOf y = some .cell ∨ (compEnvC scope cl0 0 X.env).kindOf y = some .free
  | _, _, .nil, _, h => by simp at h
  | _, _, .cons _ _ _ hvis _ t, y, h => by
    rcases List.mem_cons.mp h with e | h
    · rw [e]; exact hvis
    · exact t.vis y h
theorem Caps.cell : ∀ {cl : List (Str × Addr)} {sub : List Nat}, Caps X scope cl0 cl sub → ∀ y c, cl.lookup y = some c → X.env.cells.lookup y = some c
  | _, _, .nil, _, _, h => by cases h
  | _, _, .cons (y := z) (c := d) _ _ _ _ hc t, y, c, h => by
    rw [List.lookup_cons] at h
    split at h
    · rename_i e
      cases h
      rw [eq_of_beq e]
      exact hc
    · exact t.cell y c h
theorem lookup_has {α : Type} : ∀ {l : List (Str × α)} {y : Str}, y ∈ l.map (·.1) → ∃ c, l.lookup y = some c
  | [], _, h => by simp at h
  | (n, k) :: r, y, h => by
    rw [List.lookup_cons]
    split
    · exact ⟨k, rfl⟩
    · rename_i e
      rcases List.mem_cons.mp h with z | z
      · rw [z] at e
        simp at e
      · exact lookup_has z
def CapN (ys : List Str) (p : Str × NameKind) : Prop := p.2 = .local ∨ p.2 = .globalImplicit ∨ (p.1 ∈ ys ∧ p.2 = .free)
instance (ys : List Str) (p : Str × NameKind) : Decidable (CapN ys p) := by unfold CapN; exact inferInstance
theorem pec_compN {elt iter : Expr} {x : Str} {cl : List (Str × Addr)} {sub : List Nat} {px pos : Pos} {ifs : List Expr} {wi : TI} {tt : TT} {te : TE}
    (hc : X.calm = true) (hi : PI X (.Name x px) iter wi) (hclos : closureFor scope X.env = pure cl) (hkind : scope.kind = .function)
    (hall : ∀ p ∈ scope.names, CapN (cl.map (·.1)) p) (hnames : ∀ p ∈ scope.names, p.2 = .local → scope.names.lookup p.1 = some .local) (hx : scope.names.lookup x = some .local)
    (hnd : (x :: cl.map (·.1)).Nodup) (caps : Caps X scope cl cl sub)
    (ht : ∀ C fp s H, PTs (compX X scope cl (x :: cl.map (·.1)) C fp s H) ifs tt) (he : ∀ C fp s H, PE (compX X scope cl (x :: cl.map (·.1)) C fp s H) elt te)
    (hs : ∀ x, foldedSetIterable iter X.env x = pure x := by intro _; rfl) : PEC X (.ListComp elt [⟨.Name x px, iter, ifs, 0⟩] scope pos) iter scope (tComp wi sub tt te) := by
  refine pec_comp (cl := cl) (fv := cl.map (·.1)) hc hi hclos (fun p hp z => ?_) hkind hnames hx hnd caps.len caps.at caps.vis caps.cell (fun y hy => ?_) (fun z hz => ?_) ht he hs
  · rcases hall p hp with q | q | ⟨_, q⟩ <;> rw [q] at z <;> cases z
  · obtain ⟨c, e⟩ := lookup_has hy
    rw [e, caps.cell y c e]
  · have far : ∀ k, (k = .cell ∨ k = .free) → (compEnvC scope cl 0 X.env).kindOf z = some k → ∃ c', cl.lookup z = some c' := fun k hkk e => by
      obtain ⟨p, hp, e1, e2⟩ := lookup_at (show (scope.names.map _).lookup z = some k from e)
      obtain ⟨⟨n, kk⟩, hq, rfl⟩ := List.mem_map.mp hp
      rcases hall _ hq with q | q | ⟨q, _⟩
      · have q : kk = .local := q
        subst q
        have e2 : NameKind.local = k := e2
        rcases hkk with r | r <;> rw [r] at e2 <;> cases e2
      · have q : kk = .globalImplicit := q
        subst q
        have e2 : NameKind.globalImplicit = k := e2
        rcases hkk with r | r <;> rw [r] at e2 <;> cases e2
      · have q : n ∈ cl.map (·.1) := q
        have : z = n := by
          rw [e1]
          dsimp only
          split <;> rfl
        rw [this]
        exact lookup_has q
    rcases hz with e | e
    · exact far _ (.inl rfl) e
    · exact far _ (.inr rfl) e
end
theorem comp_range {lo : Int} {n : Nat} {D : Addr} {σ : St} {sub : List Nat} {tt : TT} {te : TE} {Q : VK} {H : Hp} (Pv : Nat → List V → Hp → Prop) (h0 : Pv 0 [] (upd H D (.lst [])))
    (hs : ∀ i ys H2, i < n → Pv i ys H2 → tt (some (.int (lo + i)) :: subσ sub σ) H2 fun b H4 => if b = true then te (some (.int (lo + i)) :: subσ sub σ) H4 fun y H5 => H5 D = some (.lst ys) ∧ ys.length < sizeLine ∧ Pv (i + 1) (ys ++ [y]) (upd H5 D (.lst (ys ++ [y]))) else Pv (i + 1) ys H4)
    (hd : ∀ ys H2, Pv n ys H2 → Q (.ref D) H2) :
    ∃ W : Nat → Nat → List V → Hp → Prop, (∃ m, W 0 m [] (upd H D (.lst []))) ∧ ∀ i m ys H2, W i m ys H2 →
      ((Itr lo n).stop i H2 ∧ Q (.ref D) H2) ∨ ((Itr lo n).go i H2 ∧ ∃ N : List V → Hp → Prop, (∀ ys' H', N ys' H' → ∃ m', m' < m ∧ W (i + 1) m' ys' H') ∧ ∀ v H3, (Itr lo n).yld i H2 v H3 → tt (some v :: subσ sub σ) H3 fun b H4 => if b = true then
        te (some v :: subσ sub σ) H4 fun y H5 => H5 D = some (.lst ys) ∧ ys.length < sizeLine ∧ N (ys ++ [y]) (upd H5 D (.lst (ys ++ [y]))) else N ys H4) := by
  refine ⟨fun i m ys H2 => m = n - i ∧ i ≤ n ∧ Pv i ys H2, ⟨n, by simp, Nat.zero_le _, h0⟩, ?_⟩
  rintro i m ys H2 ⟨rfl, hi, p⟩
  by_cases hlt : i < n
  · refine .inr ⟨hlt, Pv (i + 1), fun ys' H' p' => ⟨n - (i + 1), by omega, rfl, hlt, p'⟩, fun v H3 y => ?_⟩
    obtain ⟨e, e2⟩ := y
    subst e e2
    exact hs i ys _ hlt p
  · have e : i = n := by omega
    subst e
    exact .inl ⟨Nat.le_refl _, hd ys H2 p⟩
end L2
namespace L2
open PySem PySem.Spec PyProof.Rows
theorem Inv.turnedL {X : Cx} {pins : List (Addr × Obj)} {σ : St} {H : Hp} {s : Shared} {h' : Heap} {t' : Nat} {ch : List Addr} (I : Inv X pins σ H s) (k : ∀ b o, b ∉ ch → s.heap.get? b = some o → h'.get? b = some o) (hf : ∀ b ∈ ch, FpOk X pins H b) : Inv X pins σ H { s with heap := h', toks := t' } := by
  have nit : ∀ b u, H b = some u → b ∉ ch := fun b u e z => by rw [(hf b z).1] at e; cases e
  refine I.step (g' := s.gens) (d' := s.drawn) (ch := ch) (fun b hb => ?_) (fun b o _ _ hc e _ => k b o hc e) (fun b o _ _ hc e _ => ⟨o.slots, k b o hc e⟩) (fun _ _ _ _ n => n)
    (fun b o hc e => ⟨o, k b o hc e⟩) (fun _ _ e => e) (fun _ _ _ e => e) (fun b ps e => ⟨#[], by rw [e]; simp⟩) (fun m hm => ?_) (fun b u e => ?_) I.bare
  · obtain ⟨f0, f1, f2, f3, f4, f5⟩ := hf b hb
    exact ⟨f3, f1, f4, f5⟩
  · obtain ⟨o, es, ep, ho, r⟩ := hm
    exact ⟨o, es, ep, k _ o (fun z => (hf _ z).2.1 rfl) ho, r⟩
  · refine (I.hok b u e).stay (fun c v hc q => k c v ?_ q) (fun _ q => q) fun _ _ q => q
    rcases hc with z | z
    · rw [z]; exact nit b u e
    · exact nit c _ z
def Ite (K : PySem.W.Frag) (a : Addr) : It :=
  ⟨fun i H => ∃ xs x, SqL K H a xs ∧ xs[i]? = some x, fun i H v H' => ∃ (t : Addr) (x : V), v = .ref t ∧ H t = none ∧ H' = upd H t (.tup [.int (i : Int), x]) ∧ ∀ xs, SqL K H a xs → xs[i]? = some x, fun i H => ∃ xs, SqL K H a xs ∧ xs.length ≤ i⟩
theorem turn_enum {P : Program} {w : World} {K : PySem.W.Frag} {elts : List Expr} {kk : Nat} {pos : Pos} (a e it : Addr) (hne : e ≠ it) : Turn P w K (.Tuple elts kk pos) (Ite K a) [e, it] e (fun i h => (∃ old, IsEnum h e it (i : Int) old) ∧ h.IsListIter it a i) where
  mem := by simp
  obj := fun i h st b hb => by
    obtain ⟨⟨old, he⟩, o, ho, c, d⟩ := st
    rcases List.mem_cons.mp hb with z | z
    · subst z
      exact ⟨_, he, fun v z => by
        have z' : Data.fields _ = Data.cell v := z
        cases z'⟩
    · rcases List.mem_cons.mp z with z | z
      · subst z
        exact ⟨o, ho, fun v z => by rw [d] at z; cases z⟩
      · cases z
  keep := fun i h h' st k => ⟨let ⟨old, he⟩ := st.1; ⟨old, k e (by simp) _ he⟩, st.2.at fun o q => k it (by simp) o q⟩
  item := by
    intro X hP hw hK hc i pins s σ H E I hf st hg
    subst hP hw hK
    obtain ⟨⟨old, he⟩, hit⟩ := st
    obtain ⟨xs, x, hq, hx⟩ := hg
    obtain ⟨its, rv, p, hz⟩ := I.list hq
    obtain ⟨u, hu, ru⟩ := rv.get hx
    refine wpAny_pyNext_enum_item he hit p.isList (x := u) (by simpa using hu) hne fun h1 heo hit1 ht1 hz1 hk1 => ?_
    refine ⟨_, rfl, wpAny_letOwnedTupleGo_enum heo fun h2 he2 hs2 => ?_⟩
    have hs2 : Heap.SameBut e h1 h2 := hs2
    have el : e < s.heap.objs.size := Heap.lt_size he
    have ht2 : h2.get? s.heap.objs.size = some { cls := .type "tuple", data := .seq #[.int i s.toks, u] } := (hs2.2 _ (Nat.ne_of_gt el)).trans ht1
    have nt : H s.heap.objs.size = none := I.hok.fresh (Nat.le_refl _)
    have I1 : Inv X pins σ (upd H s.heap.objs.size (.tup [.int (i : Int), x])) { s with heap := s.heap.push { cls := .type "tuple", data := .seq #[.int i s.toks, u] }, toks := s.toks + 1 } :=
      I.laid (a := s.heap.objs.size) (o := .tup [.int (i : Int), x]) (fun _ _ q => Heap.get?_push_of_some _ q) (Nat.le_refl _) ⟨by show 2 ≤ sizeLine; decide, [.int i s.toks, u], .cons ⟨_, rfl⟩ (.cons ru .nil), _, Heap.get?_push_size _ rfl, rfl, 0, rfl⟩
    have fp1 : ∀ b ∈ [e, it], FpOk X pins (upd H s.heap.objs.size (.tup [.int (i : Int), x])) b := fun b hb => by
      obtain ⟨f0, f1, f2, f3, f4, f5⟩ := hf b hb
      refine ⟨?_, f1, f2, f3, f4, f5⟩
      have hb2 : b < s.heap.objs.size := by
        rcases List.mem_cons.mp hb with z | z
        · rw [z]; exact el
        · rcases List.mem_cons.mp z with z | z
          · rw [z]
            obtain ⟨o, ho, _⟩ := hit
            exact Heap.lt_size ho
          · cases z
      rw [upd_ne (Nat.ne_of_lt hb2)]
      exact f0
    have I2 : Inv X pins σ (upd H s.heap.objs.size (.tup [.int (i : Int), x])) { s with heap := h2, toks := s.toks + 1 } := I1.turnedL (h' := h2) (t' := s.toks + 1) (fun b o hb ho => by
      have b1 : b ≠ e := fun z => hb (by rw [z]; simp)
      have b2 : b ≠ it := fun z => hb (by rw [z]; simp)
      by_cases bs : b = s.heap.objs.size
      · rw [bs] at ho ⊢
        have ho : (s.heap.push { cls := .type "tuple", data := .seq #[.int i s.toks, u] }).get? s.heap.objs.size = some o := ho
        rw [Heap.get?_push_size _ rfl] at ho
        cases ho
        exact ht2
      · have ho2 : s.heap.get? b = some o := (Heap.get?_push_ne _ b _ bs).symm.trans ho
        exact (hs2.2 b b1).trans (hk1 b o b1 b2 ho2)) fp1
    refine ⟨.ref s.heap.objs.size, _, I2, rfl, ⟨s.heap.objs.size, x, rfl, nt, rfl, fun ys hy => by rw [I.list_inj hy hq]; exact hx⟩, ⟨⟨u, ?_⟩, hit1.extBut hs2.extBut (Ne.symm hne)⟩, fun b hb => (fp1 b hb).1⟩
    have : ((i + 1 : Nat) : Int) = (i : Int) + 1 := by omega
    rw [this]
    exact he2
  done := by
    intro X hP hw hK hc i pins s σ H E I hf st hg
    subst hP hw hK
    obtain ⟨⟨old, he⟩, hit⟩ := st
    obtain ⟨xs, hq, hx⟩ := hg
    obtain ⟨its, rv, p, hz⟩ := I.list hq
    obtain ⟨f0, f1, f2, f3, f4, f5⟩ := hf it (by simp)
    have hl := rv.length
    exact wpAny_pyNext_enum_end (I.ok.hd hc) he hit p.isList (by simp; omega) fun h' eb => ⟨rfl, I.turned (t' := s.toks) (fun b o hb q => eb b o hb q) f0 f1 f3 f4 f5⟩
  self := fun _ _ _ _ _ st h => let ⟨old, he⟩ := st.1; wpAny_pyIter_enum he h
def iEnum (K : PySem.W.Frag) (ta : TA) : TI := fun σ H R => ta σ H fun vs H1 => ∃ a, vs = [.ref a] ∧ (∃ xs, SqL K H1 a xs) ∧ R (Ite K a) H1
theorem pi_enum {X : Cx} {elts : List Expr} {kk : Nat} {pt : Pos} {a : Expr} {ta : TA} {p pos : Pos} (hg : Gl X "enumerate") (hm : X.mg "enumerate" = none) (ha : PA X [a] ta) (hs : starEach [a] X.env = [(false, eval a X.env)] := by rfl) :
    PI X (.Tuple elts kk pt) (.Call (.Name "enumerate" p) [a] [] pos) (iEnum X.K ta) := by
  intro pins s σ H R I h
  refine Call_ (ld_blt I hg hm (PyProof.Rows.Boot.«enumerate») (PyProof.Rows.callWith_type1 (thn (ha pos pins s σ H _ I h) fun us s1 ⟨vs, H1, I1, r1, q1⟩ => ?_) hs rfl))
  obtain ⟨b, e, ⟨xs, hq⟩, q⟩ := q1
  subst e
  cases r1 with
  | cons r rr =>
    cases rr
    cases r
    obtain ⟨its, rv, pp, hz⟩ := I1.list hq
    refine call_enumerate_list pp.isList fun h' hE hI hsz hk => ?_
    refine wpAny_pyIter_enum hE ?_
    refine ⟨s1.heap.objs.size + 1, [s1.heap.objs.size + 1, s1.heap.objs.size], _, _, H1, rfl, I1.kept (t' := s1.toks) hk, turn_enum b _ _ (Nat.succ_ne_self _), ⟨⟨_, hE⟩, hI⟩, fun c hc => ?_, q⟩
    rcases List.mem_cons.mp hc with z | z
    · subst z
      exact I1.fpOk (Nat.le_succ _) (I1.hok.fresh (Nat.le_succ _))
    · rcases List.mem_cons.mp z with z | z
      · subst z
        exact I1.fpOk (Nat.le_refl _) (I1.hok.fresh (Nat.le_refl _))
      · cases z
theorem for_enum {K : PySem.W.Frag} {a : Addr} {xs : List V} {g : TG} {tb : TS} {D : Ends} {σ : St} {H : Hp} (Pv : Nat → St → Hp → Prop) (h0 : Pv 0 σ H) (hl : ∀ i σ H, i ≤ xs.length → Pv i σ H → SqL K H a xs)
    (hs : ∀ i x σ H t, xs[i]? = some x → Pv i σ H → H t = none → g (.ref t) σ (upd H t (.tup [.int (i : Int), x])) fun σ2 H2 => tb { D with nx := Pv (i + 1), ct := Pv (i + 1), bk := D.nx } σ2 H2) (hd : ∀ σ H, Pv xs.length σ H → D.nx σ H) :
    ∃ W : Nat → Nat → St → Hp → Prop, (∃ m, W 0 m σ H) ∧ ∀ i m σ H, W i m σ H →
      ((Ite K a).stop i H ∧ D.nx σ H) ∨ ((Ite K a).go i H ∧ ∃ N : St → Hp → Prop, (∀ σ' H', N σ' H' → ∃ m', m' < m ∧ W (i + 1) m' σ' H') ∧ ∀ x H', (Ite K a).yld i H x H' → g x σ H' fun σ2 H2 => tb { D with nx := N, ct := N, bk := D.nx } σ2 H2) := by
  refine ⟨fun i m σ H => m = xs.length - i ∧ i ≤ xs.length ∧ Pv i σ H, ⟨xs.length, by simp, Nat.zero_le _, h0⟩, ?_⟩
  rintro i m σ H ⟨rfl, hi, p⟩
  have q := hl i σ H hi p
  by_cases hlt : i < xs.length
  · refine .inr ⟨⟨xs, xs[i], q, by simp [hlt]⟩, Pv (i + 1), fun σ' H' p' => ⟨xs.length - (i + 1), by omega, rfl, hlt, p'⟩, fun x H' y => ?_⟩
    obtain ⟨t, y1, e1, nt, e2, y⟩ := y
    subst e1 e2
    exact hs i y1 σ _ t (y xs q) p nt
  · have e : i = xs.length := by omega
    subst e
    exact .inl ⟨⟨xs, q, Nat.le_refl _⟩, hd σ H p⟩
end L2
namespace L2
open PySem PySem.Spec PyProof.Rows
section
variable {X : Cx}
variable {scope : Scope} {cl0 : List (Str × Addr)}
end
end L2
namespace L2
open PySem PySem.Spec PyProof.Rows PySem.Builtin PySem.Builtin.ObjectAttr
abbrev vMro : List Value := [.type "ValueError", .type "Exception", .type "BaseException", .type "object"]
abbrev xMro (C U : Addr) : List Value := .ref C :: .ref U :: vMro
theorem x_refuse (self : Value) (C U : Addr) : refuseLoop self "__setattr__" (xMro C U) = pure () := by
  rw [refuseLoop_ref, refuseLoop_ref]
  exact PySem.F.store_ValueError.passes self
section
variable {prog : Program} {w : World} {A : Around} {E : Value → Shared → Prop} {s : Shared} {K : PySem.W.Frag} {x C U : Addr} {ox : Obj} {od : Option Obj} {cd : ClassData} {name : Str} {v : Value}
theorem x_osa {R : Result → Shared → Prop} {tk : Tok} (X : K.In s.heap) (I : PySem.W.InstAt s.heap x ox C od) (hc : PySem.W.clsIn K C = some cd) (hm : cd.mro = xMro C U) (ha : PySem.W.findIn K (.ref C) name = some none)
    (h : ∀ b, wpAny (model prog w) A.in1 (storeInOwnDict (.ref x) (.ref C) (.str name tk) name v b)
      (fun fin s' => match fin with | .done f => R (.ok f) s' | .again c' => c'.quiet = true ∧ codeAny (model prog w) A c' R s') (fun e s' => R (.error e) s') s) :
    codeAny (model prog w) A (.call (.builtin "object.__setattr__") ⟨[.ref x, .str name tk, v], []⟩) R s := by
  have O := PySem.F.store_object
  have sub : PySem.W.Looks (model prog w) s.heap (isInstance (.ref x) (.type "object")) true := I.type.andThen (PySem.W.looks_mroIn X (by unfold PySem.W.mroIn; rw [hc, Option.bind_some, hm]; rfl))
  have hmr : PySem.W.Looks (model prog w) s.heap (mroOf (.ref C)) cd.mro := (PySem.W.looks_clsIn X hc).andThen .now
  refine codeAny_call_builtin O.slot.plain O.entry (@PySem.W.check_slot (model prog w) _ _ s "object.__setattr__" "object" "__setattr__" (.ref x) [.str name tk, v] [] _ O.kind O.split sub (O.args _ _ _) ?_)
  rw [PySem.W.osa_eq, refuse_eq]
  refine wpAny_bind (wpAny_bind (I.type.here (wpAny_bind (hmr.here ?_))))
  rw [hm, x_refuse]
  exact wpAny_pure (wpAny_bind (I.type.here (wpAny_bind ((PySem.W.looks_findIn X ha).here (wpAny_bind (wpAny_pure (h _)))))))
theorem x_set {Q : Unit → Shared → Prop} {vs : Array Value} (X : K.In s.heap) (hx : s.heap.get? x = some { cls := .ref C, data := .fields vs }) (hs : PySem.W.findIn K (.ref C) "__setattr__" = some (some (.builtin "object.__setattr__")))
    (hc : PySem.W.clsIn K C = some cd) (hm : cd.mro = xMro C U) (hd : cd.hasDict = true) (ha : PySem.W.findIn K (.ref C) name = some none)
    (h : ∀ h', h'.get? x = some { cls := .ref C, dict := some s.heap.objs.size, data := .fields vs } → h'.Ns1 s.heap.objs.size (fun y => if y = name then some v else none) → (∀ b o, b ≠ x → s.heap.get? b = some o → h'.get? b = some o) → ∀ tk, Q () { s with heap := h', toks := tk }) :
    wpAny (model prog w) A (setAttr (.ref x) name v) Q E s := by
  have I : PySem.W.InstAt s.heap x { cls := .ref C, data := .fields vs } C none := ⟨hx, rfl, rfl, True.intro⟩
  refine PySem.W.set_plain X I hs (x_osa (s := { s with toks := s.toks + 1 }) X I hc hm ha fun b => ?_)
  have hxs : x ≠ s.heap.objs.size := Nat.ne_of_lt (Heap.lt_size hx)
  refine wpAny_bind (wpAny_pure (wpAny_bind ?_))
  show wpAny _ _ (instanceDict x true) _ _ _
  unfold instanceDict
  refine wpAny_bind (wpAny_loadPart hx (wpAny_bind (PySem.W.Looks.here (s := { s with toks := s.toks + 1 }) (PySem.W.looks_clsIn X hc) ?_)))
  rw [hd]
  dsimp only
  rw [if_neg (by decide), if_neg (by simp [typeHasDict])]
  refine wpAny_bind (wpAny_alloc (wpAny_bind (wpAny_update (Heap.get?_push_of_some _ hx) (wpAny_pure ?_))))
  generalize eh : (s.heap.push { cls := .type "dict", data := .dict #[] }).update x (fun o => { cls := o.cls, dict := some s.heap.objs.size, data := o.data, slots := o.slots }) = h1
  have hx1 : h1.get? x = some { cls := .ref C, dict := some s.heap.objs.size, data := .fields vs } := by
    rw [← eh]
    exact Heap.get?_update_self _ (Heap.get?_push_of_some _ hx) rfl
  have hd1 : h1.get? s.heap.objs.size = some { cls := .type "dict", data := .dict #[] } := by
    rw [← eh, Heap.get?_update_ne _ _ _ _ (Ne.symm hxs)]
    exact Heap.get?_push_size _ rfl
  have keep1 : ∀ b o, b ≠ x → s.heap.get? b = some o → h1.get? b = some o := fun b o hb e => by
    rw [← eh, Heap.get?_update_ne _ _ _ _ hb]
    exact Heap.get?_push_of_some _ e
  have n1 : h1.Ns1 s.heap.objs.size (fun _ => none) := Heap.Ns1.of_empty ⟨_, #[], _, hd1, rfl, fun e he => absurd he (by simp), fun _ => rfl⟩
  show wpAny _ _ (storeInDict s.heap.objs.size (.str name s.toks) name v) _ _ { s with heap := h1, toks := s.toks + 1 }
  unfold storeInDict newKeyGuard
  refine wpAny_bind (wpAny_pure (wpAny_bind (wpAny_nsSet1 (s := { s with heap := h1, toks := s.toks + 1 }) n1 fun h2 n2 sb => ?_)))
  have sb : Heap.SameBut s.heap.objs.size h1 h2 := sb
  obtain ⟨o2, es2, ep2, ho2, hd2, hc2⟩ := n2.count (PySem.Within.cons name v PySem.Within.nil)
  refine wpAny_bind (wpAny_lookBehind ho2 (by rw [hd2]; exact pastItsLine_dict (Nat.le_trans hc2 (by rw [List.length_cons, List.length_nil, sizeLine_eq]; omega))) ?_)
  exact wpAny_pure (h h2 ((sb.2 x hxs).trans hx1) n2 (fun b o hb e => (sb.2 b (Nat.ne_of_lt (Heap.lt_size e))).trans (keep1 b o hb e)) _)
end
section
variable {prog : Program} {w : World} {A : Around} {E : Value → Shared → Prop} {h : Heap} {g : Array GenState} {d : Drawn} {t : Nat} {os : OsState}
variable {nm q : Str} {C N f : Addr} {bs bm bmB bmN : List Value} {hdct : Bool} {sn : List Str} {sub : List Value} {ab : Bool} {col : Option Bool} {dd : Option Addr} {k0 k1 k2 k3 k5 : Option Value} {B Bn newId nid initId inN : String}
theorem x_make (Fn : ExcBaseFacts Bn newId inN bmN) (hBn : bmB.contains (.type Bn) = true) (F : ExcBaseFacts B nid initId bmB) (T : OwnTail h bmB bm) {rest : List Value} {init : Value} {Q : Value → Shared → Prop}
    (hC : h.get? C = some (excClassObj nm q C N bs bm hdct sn sub ab col dd k0 k1 k2 k3 k5 newId)) (hi : PySem.W.Looks (model prog w) h (typeLookup (.ref C) "__init__") (some init))
    (hb : ∀ self, PySem.W.Looks (model prog w) h (bindSpecial init self) (init, [self])) (hrest : rest.length ≤ sizeLine)
    (hq : wpAny (model prog w) (A.under (.builtin "type.__call__" ⟨.ref C :: rest, []⟩)) (call init (.ref (h.objs.size + 1) :: rest)) (fun r s' => r = .none ∧ Q (.ref (h.objs.size + 1)) s') E
      ⟨(h.push { cls := .type "tuple", data := .seq rest.toArray }).push { cls := .ref C, data := .fields #[.ref h.objs.size, .none, .none, .none, .bool false, .none] }, g, d, t, os⟩) :
    wpAny (model prog w) A (call (.ref C) rest) Q E ⟨h, g, d, t, os⟩ := by
  have a1 := tc_lookup
  have a2 := tc_bind (.ref C)
  have a3 : (⟨h, g, d, t, os⟩ : Shared).TypeIs (.ref C) "type" := ⟨_, hC, rfl⟩
  refine wpAny_call (codeAny_of_tree ?_)
  show wpAny (model prog w) _ (callAny (.ref C) _) _ _ _
  repeat (any_goals (first | with_reducible refine wpAny_loadPart_at hC ?_ | assumption | wp_step))
  refine ⟨rfl, codeAny_call_builtin_at (Code.quiet_builtin _ (by decide +kernel)) entry_typeCall (wpAny_check_type_call_sub hC ?_)⟩
  repeat (first | with_reducible refine wpAny_madeBy_exc hC ?_ | with_reducible refine wpAny_loadPart_at hC ?_ | wp_step)
  refine codeAny_call_builtin_code (Code.quiet_builtin _ Fn.quiet) (wpAny_check_new_subU Fn hBn T hC (codeAny_exc_new_subU Fn hBn F T hC ?_ hrest))
  show wpAny (model prog w) _ _ _ _ ⟨(h.push { cls := .type "tuple", data := .seq rest.toArray }).push { cls := .ref C, data := .fields #[.ref h.objs.size, .none, .none, .none, .bool false, .none] }, g, d, t, os⟩
  have hCC : (Value.ref C :: bm).contains (.ref C) = true := by simp
  have kp : ∀ b o, h.get? b = some o → ((h.push { cls := .type "tuple", data := .seq rest.toArray }).push { cls := .ref C, data := .fields #[.ref h.objs.size, .none, .none, .none, .bool false, .none] }).get? b = some o := fun b o e =>
    Heap.get?_push_of_some _ (Heap.get?_push_of_some _ e)
  have hE : ((h.push { cls := .type "tuple", data := .seq rest.toArray }).push { cls := .ref C, data := .fields #[.ref h.objs.size, .none, .none, .none, .bool false, .none] }).get? (h.objs.size + 1) = some { cls := .ref C, data := .fields #[.ref h.objs.size, .none, .none, .none, .bool false, .none] } := by heap_get
  have hT : ((h.push { cls := .type "tuple", data := .seq rest.toArray }).push { cls := .ref C, data := .fields #[.ref h.objs.size, .none, .none, .none, .bool false, .none] }).get? h.objs.size = some { cls := .type "tuple", data := .seq rest.toArray } := Heap.get?_push_of_some _ (Heap.get?_push_at rfl rfl)
  have hC2 := kp _ _ hC
  unfold isInstance
  repeat (first | (with_reducible refine wpAny_isSubtype_exc hC2 ?_; rw [hCC]) | with_reducible refine wpAny_loadPart_at hE ?_ | wp_step)
  show wpAny (model prog w) _ (typeLookup (.ref C) _) _ _ _
  refine hi _ _ _ _ kp (wpAny_holding (wpAny_bind (hb _ _ _ _ _ kp (wpAny_bind (thn hq fun r s' hr => ?_)))))
  obtain ⟨rfl, hQ⟩ := hr
  wp_walk
  exact hQ
end
end L2
namespace L2
open PySem PySem.Spec PyProof.Rows
def XOn (n : Bool) (C e : Addr) (D : Option Addr) : HO := .ext fun h => ∃ vs, h.get? e = some { cls := .ref C, dict := D, data := .fields vs } ∧ (n = true → vs[1]? = some .none)
abbrev XO : Addr → Addr → Option Addr → HO := XOn true
theorem xon_ok {P : Program} {w : World} {H : Hp} {h : Heap} {n : Bool} {C e : Addr} {D : Option Addr} {vs : Array Value} (q : h.get? e = some { cls := .ref C, dict := D, data := .fields vs }) (h1 : n = true → vs[1]? = some .none) : ObjOk P w H h e (XOn n C e D) :=
  ⟨⟨vs, q, h1⟩, ⟨_, q⟩, fun h1 h2 ⟨us, z, z1⟩ k => ⟨us, k _ z, z1⟩⟩
theorem xo_ok {P : Program} {w : World} {H : Hp} {h : Heap} {C e : Addr} {D : Option Addr} {vs : Array Value} (q : h.get? e = some { cls := .ref C, dict := D, data := .fields vs }) (h1 : vs[1]? = some .none) : ObjOk P w H h e (XO C e D) := xon_ok q fun _ => h1
theorem xo_get {X : Cx} {pins : List (Addr × Obj)} {σ : St} {H : Hp} {s : Shared} {n : Bool} {C e : Addr} {D : Option Addr} (I : Inv X pins σ H s) (q : H e = some (XOn n C e D)) : ∃ vs, s.heap.get? e = some { cls := .ref C, dict := D, data := .fields vs } ∧ (n = true → vs[1]? = some .none) := (I.hok e _ q).1
def xIn (K : PySem.W.Frag) (C U : Addr) : Bool := match K.lookup C with
  | some ⟨.type "type", _, .cls cd, sl⟩ => (match sl.toList with
    | [_, _, _, _, some (.builtin n), _] => n == "ValueError.__new__" && cd.mro == xMro C U && !cd.hasDel && cd.hasDict && PySem.W.tailIn K vMro (.ref U :: vMro)
    | _ => false)
  | _ => false
structure XCls (K : PySem.W.Frag) (C U : Addr) : Prop where
  ex : xIn K C U = true
  ga : PySem.W.findIn K (.ref C) "__getattribute__" = some (some (.builtin "BaseException.__getattribute__"))
  gn : PySem.W.findIn K (.ref C) "__getattr__" = some none
  cl : PySem.W.findIn K (.ref C) "__class__" = some (some (.builtin "object.__class__"))
  sp : PySem.W.specialIn K (.builtin "object.__class__") "__get__" = some (some (.builtin "getset_descriptor.__get__"))
  tk : PySem.W.takesIn K (.builtin "object.__class__") = some true
  sa : PySem.W.findIn K (.ref C) "__setattr__" = some (some (.builtin "object.__setattr__"))
  kp : PySem.W.keepIn K (.ref C) = true
theorem x_of {K : PySem.W.Frag} {h : Heap} {C U : Addr} (X : K.In h) (q : xIn K C U = true) : (∃ cd, PySem.W.clsIn K C = some cd ∧ cd.mro = xMro C U ∧ cd.hasDict = true) ∧ OwnTail h vMro (.ref U :: vMro) ∧
    ∃ nm qn N bs hdct sn sub ab col dd k0 k1 k2 k3 k5, h.get? C = some (excClassObj nm qn C N bs (.ref U :: vMro) hdct sn sub ab col dd k0 k1 k2 k3 k5 "ValueError.__new__") := by
  unfold xIn at q
  split at q
  · rename_i dd cd sl ho
    split at q
    · rename_i k0 k1 k2 k3 n k5 hs
      simp only [Bool.and_eq_true, beq_iff_eq, Bool.not_eq_true'] at q
      obtain ⟨⟨⟨⟨rfl, hm⟩, hdel⟩, hd⟩, ht⟩ := q
      refine ⟨⟨cd, by unfold PySem.W.clsIn; rw [ho], hm, hd⟩, PySem.W.tail_of_in X ht, ?_⟩
      obtain ⟨nm, bs, mro, ns, qn, hdc, sn, sub, ab, col, del⟩ := cd
      dsimp only at hm hdel
      subst hm hdel
      have e : sl = #[k0, k1, k2, k3, some (.builtin "ValueError.__new__"), k5] := by
        obtain ⟨l⟩ := sl
        simp only at hs
        rw [hs]
      subst e
      exact ⟨nm, qn, ns, bs, hdc, sn, sub, ab, col, dd, k0, k1, k2, k3, k5, X _ _ ho⟩
    · cases q
  · cases q
section
variable {X : Cx} {pins : List (Addr × Obj)} {σ : St} {H : Hp} {s : Shared}
def XAt (H : Hp) (e C : Addr) (fs : List (Str × V)) : Prop := ∃ n D, H e = some (XOn n C e D) ∧ ((D = none ∧ fs = []) ∨ ∃ d, D = some d ∧ H d = some (.xd fs))
end
section
variable {X : Cx}
def sXFld (K : PySem.W.Frag) (ta tv : TE) (f : Str) : TS := fun D σ H => tv σ H fun y H1 => ta σ H1 fun x H2 => ∃ (e C U : Addr), x = .ref e ∧ H2 e = some (XO C e none) ∧ XCls K C U ∧ PySem.W.findIn K (.ref C) f = some none ∧
  ∀ d, H2 d = none → D.nx σ (upd (upd H2 d (.xd [(f, y)])) e (XO C e (some d)))
theorem ps_xfld {o value : Expr} {ta tv : TE} {f : Str} {pos pos' : Pos} (ha : PE X o ta) (hv : PE X value tv) (hs : swapsWith value (some (.Attribute o f pos')) pos.line X.env = pure false) : PS X (.Assign [.Attribute o f pos'] value pos) (sXFld X.K ta tv f) := by
  intro pins s σ H D I h
  refine plainObj_wpAny_Assign_Attribute (thn (hv pins s σ H _ I h) fun u s1 ⟨y, H1, I1, ry, q⟩ => thn (ha pins s1 σ H1 _ I1 q) fun ov s2 ⟨x, H2, I2, rx, e, C, U, ex, h1, T, hn, q2⟩ => ?_) hs
  subst ex
  obtain rfl : ov = Value.ref e := rx
  obtain ⟨vs, hx, hv1⟩ := xo_get I2 h1
  obtain ⟨⟨cd, hc, hm, hdct⟩, _⟩ := x_of I2.kIn T.ex
  refine x_set I2.kIn hx T.sa hc hm hdct hn fun h' hx' n' keep tk => ?_
  have nd : H2 s2.heap.objs.size = none := I2.hok.fresh (Nat.le_refl _)
  have ed : e ≠ s2.heap.objs.size := ne_of_none h1 nd
  obtain ⟨od, es, ep, hod, hrest⟩ := id n'
  have Ia := I2.laid (t' := tk) (a := s2.heap.objs.size) (o := .dK []) (h' := s2.heap.push { cls := .type "dict", data := .dict #[] }) (fun _ _ z => Heap.get?_push_of_some _ z) (Nat.le_refl _) (dk_empty s2.heap I2.big)
  have hfr : od.isFreed = false := (Heap.get?_some_iff.mp hod).2
  have g1 : ((s2.heap.push { cls := .type "dict", data := .dict #[] }).update s2.heap.objs.size fun _ => od).get? s2.heap.objs.size = some od := Heap.get?_update_self _ (Heap.get?_push_size _ rfl) hfr
  have Ib := Ia.write (t' := tk) (x := s2.heap.objs.size) (e := s2.heap.objs.size) (o := .xd [(f, y)]) (h' := (s2.heap.push { cls := .type "dict", data := .dict #[] }).update s2.heap.objs.size fun _ => od) (by rw [upd_same]; exact True.intro) (.inl rfl)
    (fun b z hb e0 => (Heap.get?_update_ne _ _ _ _ hb).trans e0) ⟨od, g1⟩ ⟨fun g => if g = f then some u else none, n'.at fun o z => by rw [hod] at z; cases z; exact g1, fun g => by
      show RelO (List.lookup g [(f, y)]) (if g = f then some u else none)
      by_cases c : g = f
      · rw [if_pos c, c]
        show RelO (List.lookup f [(f, y)]) _
        rw [List.lookup_cons, beq_self_eq_true]
        exact ry
      · rw [if_neg c]
        show RelO (List.lookup g [(f, y)]) _
        rw [List.lookup_cons, beq_eq_false_iff_ne.mpr c]
        exact True.intro⟩
  rw [upd_upd] at Ib
  have Ic := Ib.write (t' := tk) (x := e) (e := e) (o := XO C e (some s2.heap.objs.size)) (h' := h') (by rw [upd_ne ed, h1]; exact True.intro) (.inl rfl)
    (fun b z hb e0 => by
      by_cases c : b = s2.heap.objs.size
      · subst c
        have e0 : ((s2.heap.push { cls := .type "dict", data := .dict #[] }).update s2.heap.objs.size fun _ => od).get? s2.heap.objs.size = some z := e0
        rw [g1] at e0
        cases e0
        exact hod
      · exact keep b z hb ((Heap.get?_push_ne _ b _ c).symm.trans ((Heap.get?_update_ne _ _ _ _ c).symm.trans e0))) ⟨_, hx'⟩ (xo_ok hx' (hv1 rfl))
  exact ⟨σ, _, Ic, q2 _ nd⟩
def tXMake (C : Addr) (sp : Sp) (E : XK) (t : TA) : TE := fun σ H Q => t σ H fun vs H1 => ∀ x, H1 x = none → sp (.ref x :: vs) (upd H1 x (XO C x none)) (fun v H2 => v = .non ∧ Q (.ref x) H2) E
theorem run_xmake {CX : CXT} {k : Nat} {f C U : Addr} {fd : FuncData} {ps : List Str} {sp : Sp} {E : XK} {pins : List (Addr × Obj)} {σ : St} {H : Hp} {s : Shared} {Q : VK} {us : List Value} {vs : List V} (T : XCls X.K C U) (hi : PySem.W.findIn X.K (.ref C) "__init__" = some (some (.ref f))) (hf : PySem.W.isFn X.K (.ref f) = true)
    (F : FnOk X.prog X.w X.K X.mg X.base CX k f fd ps sp) (hr : Room (k + 1) X.A) (hb : Binds X.K fd ps []) (hx : Passes CX X E) (I : Inv X pins σ H s) (r : Vals vs us) (hl : us.length ≤ sizeLine)
    (h : ∀ x, H x = none → sp (.ref x :: vs) (upd H x (XO C x none)) (fun v H2 => v = .non ∧ Q (.ref x) H2) E) : wpAny (model X.prog X.w) X.A (call (.ref C) us) (EP X pins σ Q) X.xe s := by
  obtain ⟨_, OT, nm, qn, N, bs, hdct, sn, sub, ab, col, dd, k0, k1, k2, k3, k5, hC⟩ := x_of I.kIn T.ex
  have hq := h (s.heap.objs.size + 1) (I.hok.fresh (Nat.le_succ _))
  obtain ⟨hp, g, d, t, os⟩ := s
  refine x_make PySem.F.excBase_ValueError (by decide) PySem.F.excBase_ValueError OT hC (PySem.W.looks_findIn I.kIn hi) (fun self => PySem.W.bind_fn I.kIn self (beq_iff_eq.mp hf)) hl ?_
  have I2 : Inv X pins σ (upd H (hp.objs.size + 1) (XO C (hp.objs.size + 1) none)) ⟨(hp.push { cls := .type "tuple", data := .seq us.toArray }).push { cls := .ref C, data := .fields #[.ref hp.objs.size, .none, .none, .none, .bool false, .none] }, g, d, t, os⟩ :=
    I.laid (h' := (hp.push { cls := .type "tuple", data := .seq us.toArray }).push { cls := .ref C, data := .fields #[.ref hp.objs.size, .none, .none, .none, .bool false, .none] }) (t' := t) (fun b o e => Heap.get?_push_of_some _ (Heap.get?_push_of_some _ e)) (Nat.le_succ _) (xo_ok (by heap_get) rfl)
  have r2 : Vals (V.ref (hp.objs.size + 1) :: vs) (Value.ref (hp.objs.size + 1) :: us) := .cons rfl r
  have hln : ((Value.ref (hp.objs.size + 1) :: us) ++ []).length = ps.length := by
    have e := r2.length
    rw [F.len _ _ _ _ hq] at e
    rw [List.append_nil]
    exact e.symm
  refine wpAny_call (codeAny_mono (F.run _ X.stack _ _ ⟨Value.ref (hp.objs.size + 1) :: us, []⟩ (Value.ref (hp.objs.size + 1) :: us) _ _ E (hr.make C us []) (I2.env0.make C us []) (by have := hb _ (Value.ref (hp.objs.size + 1) :: us) I2.kIn hln; rw [List.append_nil] at this; exact this) r2 hq) fun rr s' hq' => ?_)
  cases rr with
  | error e => exact hx pins σ _ _ e s' I2 hq'
  | ok fl =>
    cases fl with
    | ret u =>
      obtain ⟨v, H', I3, rv, ev, q3⟩ := I2.after hq'
      subst ev
      exact ⟨rv, ⟨V.ref (hp.objs.size + 1), H', I3, rfl, q3⟩⟩
    | next => exact False.elim hq'
    | brk => exact False.elim hq'
    | cont => exact False.elim hq'
theorem pe_xmake {CX : CXT} {k : Nat} {f C U : Addr} {fd : FuncData} {ps : List Str} {sp : Sp} {E : XK} {x : Str} {p pos : Pos} {e : Expr} {es : List Expr} {t : TA} (T : XCls X.K C U) (hi : PySem.W.findIn X.K (.ref C) "__init__" = some (some (.ref f))) (hf : PySem.W.isFn X.K (.ref f) = true)
    (F : FnOk X.prog X.w X.K X.mg X.base CX k f fd ps sp) (hr : Room (k + 1) X.A) (hg : Gl X x) (hm : X.mg x = some (.ref C)) (hb : Binds X.K fd ps []) (hx : Passes CX X E) (hsm : ∀ vs H Q E, sp vs H Q E → vs.length ≤ 100)
    (ha : PA X (e :: es) t) (hdb : (x == ("__debug__" : Str)) = false := by decide) (he : starEach (e :: es) X.env = (false, eval e X.env) :: starEach es X.env := by rfl) (hpl : (backTo pos (starEach es X.env)).any (·.1) = false := by rfl) :
    PE X (.Call (.Name x p) (e :: es) [] pos) (tXMake C sp E t) := by
  intro pins s σ H Q I h
  refine wpAny_Call_Name_kw (ld_glob I hg hm ?_ hdb)
  refine PySem.W.callWith_K (h₀ := X.base) I.ok.mod.kin T.kp (thn (ha pos pins s σ H _ I h) fun us s1 ⟨vs, H1, I1, r, q⟩ => ⟨I1.kIn, ?_⟩) he hpl
  have hl : us.length ≤ sizeLine := by
    have e1 := hsm _ _ _ _ (q _ (I1.hok.fresh (Nat.le_refl _)))
    rw [List.length_cons] at e1
    have e2 := r.length
    exact Nat.le_trans (show us.length ≤ 100 by omega) (by decide)
  exact run_xmake T hi hf F hr hb hx I1 r hl q
def tXMake0 (C : Addr) : TE := fun _ H Q => ∀ x, H x = none → Q (.ref x) (upd H x (XO C x none))
theorem pe_xmake0 {C U : Addr} {x : Str} {p pos : Pos} (T : XCls X.K C U) (hi : PySem.W.findIn X.K (.ref C) "__init__" = some (some (.builtin "ValueError.__init__"))) (hg : Gl X x) (hm : X.mg x = some (.ref C)) (hdb : (x == ("__debug__" : Str)) = false := by decide) :
    PE X (.Call (.Name x p) [] [] pos) (tXMake0 C) := by
  intro pins s σ H Q I h
  refine wpAny_Call_Name_kw (ld_glob I hg hm ?_ hdb)
  refine PySem.W.callWith_K0 I.kIn T.kp ?_
  obtain ⟨_, OT, nm, qn, N, bs, hdct, sn, sub, ab, col, dd, k0, k1, k2, k3, k5, hC⟩ := x_of I.kIn T.ex
  have hq := h (s.heap.objs.size + 1) (I.hok.fresh (Nat.le_succ _))
  obtain ⟨hp, g, d, t, os⟩ := s
  have F := PySem.F.excBase_ValueError
  refine x_make F (by decide) F OT hC (PySem.W.looks_findIn I.kIn hi) (fun self => PySem.W.Looks.of_pure (F.init.bind self)) (Nat.zero_le _) ?_
  have kp : ∀ b o, hp.get? b = some o → ((hp.push { cls := .type "tuple", data := .seq ([] : List Value).toArray }).push { cls := .ref C, data := .fields #[.ref hp.objs.size, .none, .none, .none, .bool false, .none] }).get? b = some o := fun b o e => Heap.get?_push_of_some _ (Heap.get?_push_of_some _ e)
  have hE : ((hp.push { cls := .type "tuple", data := .seq ([] : List Value).toArray }).push { cls := .ref C, data := .fields #[.ref hp.objs.size, .none, .none, .none, .bool false, .none] }).get? (hp.objs.size + 1) = some { cls := .ref C, data := .fields #[.ref hp.objs.size, .none, .none, .none, .bool false, .none] } := by heap_get
  refine wpAny_call (codeAny_call_builtin F.init.plain F.initEntry (wpAny_check_init_subU F (OT.keeps kp) (kp _ _ hC) hE rfl ?_))
  wp_walk
  refine ⟨rfl, .ref (hp.objs.size + 1), _, I.laid (t' := t) (a := hp.objs.size + 1) (o := XO C (hp.objs.size + 1) none) (fun b o e => ?_) (Nat.le_succ _) (xo_ok (Heap.get?_update_self _ (Heap.get?_push_of_some _ hE) rfl) rfl), rfl, hq⟩
  exact (Heap.get?_update_ne _ _ _ _ (Nat.ne_of_lt (Nat.lt_succ_of_lt (Heap.lt_size e)))).trans (Heap.get?_push_of_some _ (kp b o e))
end
end L2
namespace L2
open PySem PySem.Spec PyProof.Rows
section
variable {M : Model} {A : Around} {E : Value → Shared → Prop} {s : Shared}
def Fly (h : Heap) (e : Addr) : Prop := ∃ oe vs T oT ts, h.get? e = some oe ∧ oe.data = .fields vs ∧ vs[1]? = some (.ref T) ∧ T ≠ e ∧ h.get? T = some oT ∧ oT.data = .fields ts ∧ ts[3]? = some .none
structure Noted (l : List Env) (e : Addr) (h h' : Heap) : Prop where
  keep : ∀ b o, b ≠ e → h.get? b = some o → b ∉ frs l → h'.get? b = some o
  slot : ∀ b o, b ≠ e → h.get? b = some o → ∃ sl, h'.get? b = some { o with slots := sl }
  exc : ∀ oe vs, h.get? e = some oe → oe.data = .fields vs → ∃ vs', h'.get? e = some { oe with data := .fields vs' }
  fly : Fly h' e
theorem mapF {o : Obj} {vs : Array Value} (hd : o.data = .fields vs) (f : Array Value → Array Value) : o.mapFields f = { o with data := .fields (f vs) } := by
  obtain ⟨c, d, dt, sl⟩ := o
  cases hd
  rfl
theorem entryP {base : Heap} {env : Env} {outer : List Env} {L e : Addr} {oe : Obj} {vs : Array Value} {head : Value} {hadNext : Bool} {Q : Unit → Shared → Prop}
    (hfr : A.frames = some (env :: outer)) (hl : s.heap.FunFrames base (env :: outer)) (hf : env.frame = some L)
    (he : s.heap.get? e = some oe) (hd : oe.data = .fields vs) (hsz : 1 < vs.size)
    (h : ∀ h', Noted (env :: outer) e s.heap h' → Q () { s with heap := h' }) :
    wpAny M A (do let a ← frameOf env; let pl ← entryPlaceOf L hadNext; let b ← EntryCells.newEntry head a .none (rawInt L) .none pl; setField (.ref e) 1 b) (fun _ s' => wpAny M A (setFlight (.ref e) none) Q E s') E s := by
  have hene : e ∉ (env :: outer).filterMap (·.frame) := fun hm => by
    obtain ⟨_, o, ho, hnf⟩ := hl.mem hm
    rw [he] at ho; injection ho with ho; subst ho; exact hnf vs hd
  refine wpAny_bind (wpAny_frameOf_fun hfr hl hf fun h₁ hs₁ => ?_)
  refine wpAny_bind (wpAny_entryPlaceOf fun pl hpl => ?_)
  unfold EntryCells.newEntry newFields
  refine wpAny_bind (wpAny_newObj_type ?_ (hpl.sizeOk5 _ _ _ _ _))
  have he₁ : h₁.get? e = some oe := (hs₁.2.1 e hene).trans he
  generalize hT : ({ cls := .type "traceback", dict := none, data := .fields ([head, .ref L, .none, rawInt L, .none] ++ (if pl.isEmpty then List.replicate 6 Value.none else pl)).toArray } : Obj) = oT
  have he₂ := Heap.get?_push_of_some (h := h₁) oT he₁
  refine wpAny_setField he₂ hd hsz ?_
  have hTe : h₁.objs.size ≠ e := Nat.ne_of_gt (Heap.lt_size he₁)
  have hd₃ := Obj.data_mapFields hd (·.setIfInBounds 1 (Value.ref h₁.objs.size))
  have he₃ := Heap.get?_update_self (Obj.mapFields (·.setIfInBounds 1 (Value.ref h₁.objs.size))) he₂ (Obj.isFreed_of_fields hd₃)
  have hT₃ := (Heap.get?_update_other (h₁.push oT) (Obj.mapFields (·.setIfInBounds 1 (Value.ref h₁.objs.size))) (Ne.symm hTe)).trans (Heap.get?_push_size h₁ (by rw [← hT]; rfl))
  have hdT : oT.data = .fields ([head, .ref L, .none, rawInt L, .none] ++ (if pl.isEmpty then List.replicate 6 Value.none else pl)).toArray := by rw [← hT]
  unfold setFlight
  refine wpAny_bind (wpAny_field he₃ hd₃ (x := .ref h₁.objs.size) (by simp [hsz]) ?_)
  rw [if_pos (show (Value.ref h₁.objs.size != Value.none) = true from by simp)]
  refine wpAny_setField hT₃ hdT (by simp only [List.size_toArray, List.length_append, List.length_cons, List.length_nil] <;> omega) (h _ ?_)
  have keep : ∀ b o, b ≠ e → h₁.get? b = some o → (((h₁.push oT).update e (Obj.mapFields (·.setIfInBounds 1 (Value.ref h₁.objs.size)))).update h₁.objs.size (Obj.mapFields (·.setIfInBounds 3 ((none : Option Addr).elim Value.none fun f => rawInt f)))).get? b = some o := fun b o hbe hb => by
    have hbT : h₁.objs.size ≠ b := Nat.ne_of_gt (Heap.lt_size hb)
    rw [Heap.get?_update_other _ _ hbT, Heap.get?_update_other _ _ (Ne.symm hbe)]
    exact Heap.get?_push_of_some _ hb
  have he₄ : (((h₁.push oT).update e (Obj.mapFields (·.setIfInBounds 1 (Value.ref h₁.objs.size)))).update h₁.objs.size (Obj.mapFields (·.setIfInBounds 3 ((none : Option Addr).elim Value.none fun f => rawInt f)))).get? e = some (oe.mapFields (·.setIfInBounds 1 (Value.ref h₁.objs.size))) := by
    rw [Heap.get?_update_other _ _ hTe]; exact he₃
  refine ⟨fun b o hbe hb hn => keep b o hbe ((hs₁.2.1 b hn).trans hb), fun b o hbe hb => ?_, fun oe' vs' e1 e2 => ?_, ?_⟩
  · obtain ⟨sl, hs⟩ := hs₁.2.2 b o hb
    exact ⟨sl, keep b _ hbe hs⟩
  · rw [he] at e1; cases e1
    exact ⟨_, he₄.trans (by rw [mapF hd])⟩
  · exact ⟨_, _, h₁.objs.size, _, _, he₄, hd₃, by simp [hsz], hTe, Heap.get?_update_self _ hT₃ (Obj.isFreed_of_fields (Obj.data_mapFields hdT _)), Obj.data_mapFields hdT _, by first | (simp; done) | (rcases hpl with rfl | ⟨_, _, _, _, _, _, _, rfl⟩ <;> simp)⟩
theorem upd_same_obj {h : Heap} {T : Addr} {oT : Obj} {ts : Array Value} (hT : h.get? T = some oT) (hd : oT.data = .fields ts) (h3 : ts[3]? = some .none) (b : Addr) : (h.update T (Obj.mapFields (·.setIfInBounds 3 Value.none))).get? b = h.get? b := by
  by_cases e : b = T
  · subst e
    have hd' := Obj.data_mapFields hd (·.setIfInBounds 3 Value.none)
    rw [Heap.get?_update_self _ hT (Obj.isFreed_of_fields hd'), hT, mapF hd]
    have : ts.setIfInBounds 3 Value.none = ts := by
      obtain ⟨h1, h2⟩ := Array.getElem?_eq_some_iff.mp h3
      rw [Array.setIfInBounds, dif_pos h1]
      conv => lhs; rw [← h2]
      simp
    rw [this]
    obtain ⟨c, d, dt, sl⟩ := oT
    cases hd
    rfl
  · exact Heap.get?_update_other _ _ (Ne.symm e)
theorem funF {base h h' : Heap} (k : ∀ b, h'.get? b = h.get? b) {l : List Env} (hl : h.FunFrames base l) : h'.FunFrames base l := hl.of_keeps fun b o ho _ => ⟨o, (k b).trans ho, rfl⟩
theorem noteP {base : Heap} {env : Env} {outer : List Env} {L e : Addr} {oe : Obj} {vs : Array Value} {Q : Unit → Shared → Prop}
    (hfr : A.frames = some (env :: outer)) (hl : s.heap.FunFrames base (env :: outer)) (hf : env.frame = some L)
    (he : s.heap.get? e = some oe) (hd : oe.data = .fields vs) (h1 : vs[1]? = some .none ∨ Fly s.heap e)
    (h : ∀ h', Noted (env :: outer) e s.heap h' → Q () { s with heap := h' }) :
    wpAny M A (noteFrame (.ref e) env) (fun _ s' => wpAny M A (setFlight (.ref e) none) Q E s') E s := by
  unfold noteFrame
  simp only [hf]
  rcases h1 with h1 | ⟨oe', vs', T, oT, ts, e1, e2, h1, hTe, hT, hdT, h3⟩
  · refine wpAny_bind (wpAny_field he hd h1 ?_)
    rw [if_neg (by decide)]
    exact entryP hfr hl hf he hd (Array.getElem?_eq_some_iff.mp h1).1 h
  · rw [he] at e1; cases e1
    rw [hd] at e2; cases e2
    refine wpAny_bind (wpAny_field he hd h1 ?_)
    rw [if_pos (show (Value.ref T != Value.none) = true from by simp)]
    refine wpAny_bind (wpAny_field hT hdT h3 ?_)
    rw [if_neg (show ¬ ((Value.none == rawInt L) = true) from by simp [rawInt])]
    refine wpAny_bind (wpAny_setField hT hdT (Array.getElem?_eq_some_iff.mp h3).1 ?_)
    have same := upd_same_obj hT hdT h3
    refine entryP hfr (funF same hl) hf ((same e).trans he) hd (Array.getElem?_eq_some_iff.mp h1).1 fun h' N => h h' ⟨fun b o hb q => N.keep b o hb ((same b).trans q), fun b o hb q => N.slot b o hb ((same b).trans q), fun oe vs q => N.exc oe vs ((same e).trans q), N.fly⟩
theorem leaveP {base : Heap} {env : Env} {outer : List Env} {L e : Addr} {oe : Obj} {vs : Array Value} {Q : Unit → Shared → Prop}
    (hfr : A.frames = some (env :: outer)) (hl : s.heap.FunFrames base (env :: outer)) (hf : env.frame = some L)
    (he : s.heap.get? e = some oe) (hd : oe.data = .fields vs) (h1 : vs[1]? = some .none ∨ Fly s.heap e)
    (h : ∀ h', Noted (env :: outer) e s.heap h' → Q () { s with heap := h' }) : wpAny M A (leaving env (.ref e)) Q E s := by
  unfold leaving
  exact wpAny_bind (noteP hfr hl hf he hd h1 h)
end
end L2
namespace L2
open PySem PySem.Spec PyProof.Rows
section
variable {M : Model} {A : Around} {E : Value → Shared → Prop} {env : Env}
theorem x_raise {s : Shared} {x : Sem Value} {Q : Flow → Shared → Prop} (hh : A.handled = none)
    (h : wpAny M A x (fun v s₁ => ∃ (e C : Addr) (D : Option Addr) (vs : Array Value), v = .ref e ∧ (∃ (U : Addr) (nm qn : Str) (N : Addr) (bs : List Value) (hdct : Bool) (sn : List Str) (sub : List Value) (ab : Bool) (col : Option Bool) (dd : Option Addr) (k0 k1 k2 k3 k5 : Option Value), s₁.heap.get? C = some (excClassObj nm qn C N bs (.ref U :: vMro) hdct sn sub ab col dd k0 k1 k2 k3 k5 "ValueError.__new__")) ∧
      s₁.heap.get? e = some { cls := .ref C, dict := D, data := .fields vs } ∧ vs[1]? = some .none ∧ E (.ref e) s₁) E s) :
    wpAny M A (raiseStmt env (some x) none) Q E s := by
  unfold raiseStmt
  refine wpAny_bind (wpAny_mono h (fun v s₁ h₁ => ?_) fun _ _ x => x)
  obtain ⟨e, C, D, vs, rfl, ⟨U, nm, qn, N, bs, hdct, sn, sub, ab, col, dd, k0, k1, k2, k3, k5, hC⟩, he, h1, hE⟩ := h₁
  have hcB : (Value.ref C :: .ref U :: vMro).contains (.type "BaseException") = true := by
    rw [List.contains_cons, List.contains_cons, show vMro.contains (.type "BaseException") = true from by decide, Bool.or_true, Bool.or_true]
  obtain ⟨hp, g, d, tk, os⟩ := s₁
  repeat (first | with_reducible refine wpAny_loadPart_at he ?_ | with_reducible refine wpAny_loadPart_at hC ?_ | (with_reducible refine wpAny_isSubtype_exc hC ?_; rw [hcB]) | (unfold setFlight; refine wpAny_bind (wpAny_bind (wpAny_field he rfl h1 ?_)); rw [if_neg (by decide)]; refine wpAny_pure ?_) | wp_step)
  exact wpAny_raiseNew_none hh hE
end
section
variable {M : Model} {A : Around} {E : Value → Shared → Prop} {env : Env}
theorem x_Raise {s : Shared} {x : Expr} {pos : Pos} {Q : Flow → Shared → Prop} (hh : A.handled = none)
    (h : wpAny M A (eval x env) (fun v s₁ => ∃ (e C : Addr) (D : Option Addr) (vs : Array Value), v = .ref e ∧ (∃ (U : Addr) (nm qn : Str) (N : Addr) (bs : List Value) (hdct : Bool) (sn : List Str) (sub : List Value) (ab : Bool) (col : Option Bool) (dd : Option Addr) (k0 k1 k2 k3 k5 : Option Value), s₁.heap.get? C = some (excClassObj nm qn C N bs (.ref U :: vMro) hdct sn sub ab col dd k0 k1 k2 k3 k5 "ValueError.__new__")) ∧
      s₁.heap.get? e = some { cls := .ref C, dict := D, data := .fields vs } ∧ vs[1]? = some .none ∧ E (.ref e) s₁) E s) :
    wpAny M A (exec (.Raise (some x) none pos) env) Q E s := by
  rw [arm_exec_Raise]
  first
    | exact wpAny_bind (wpAny_standAt (x_raise hh (wpAny_bind (wpAny_mono h (fun v s₁ h₁ => wpAny_bind (wpAny_standAt (wpAny_pure h₁))) fun _ _ x => x))))
    | (simp only [evalOpt, Option.map]; exact wpAny_bind (wpAny_standAt (x_raise hh (wpAny_bind (wpAny_mono h (fun v s₁ h₁ => wpAny_bind (wpAny_standAt (wpAny_pure h₁))) fun _ _ x => x)))))
    | (show wpAny M A (do standAt pos; raiseStmt env (some (do let v ← eval x env; standAt pos; pure v)) none) Q E s; exact wpAny_bind (wpAny_standAt (x_raise hh (wpAny_bind (wpAny_mono h (fun v s₁ h₁ => wpAny_bind (wpAny_standAt (wpAny_pure h₁))) fun _ _ x => x)))))
end
section
variable {P : Program} {w : World} {H : Hp} {h h' : Heap} {l : List Env} {a C : Addr} {D : Option Addr} {n : Bool}
theorem xo_ne {b : Addr} {o : HO} (hx : H a = some (XOn n C a D)) (e : H b = some o) (ho : ∀ p, o ≠ .ext p) : b ≠ a := fun z => by
  rw [z, hx] at e
  exact ho _ (Option.some.inj e).symm
theorem noted_hok (ok : HOk P w H h) (N : Noted l a h h') (hx : H a = some (XOn n C a D)) (fr : ∀ b ∈ frs l, H b = none) : HOk P w (upd H a (XOn false C a D)) h' := fun b u q => by
  obtain ⟨vs, he, _⟩ := (ok a _ hx).1
  by_cases hb : b = a
  · subst hb
    rw [upd_same] at q
    cases q
    obtain ⟨vs', e'⟩ := N.exc _ _ he rfl
    exact xon_ok e' fun z => by cases z
  · rw [upd_ne hb] at q
    refine (ok b u q).stay (fun c v hc e => ?_) (fun c e => ?_) fun c xs e => ?_
    · have hca : c ≠ a ∧ H c ≠ none := by
        rcases hc with rfl | hc
        · exact ⟨hb, by rw [q]; intro z; cases z⟩
        · exact ⟨xo_ne hx hc (by intro p z; cases z), by rw [hc]; intro z; cases z⟩
      exact N.keep c v hca.1 e fun z => hca.2 (fr c z)
    · rw [upd_ne (xo_ne hx e (by intro p z; cases z))]; exact e
    · rw [upd_ne (xo_ne hx e (by intro p z; cases z))]; exact e
theorem noted_un (N : Noted l a h h') (hx : H a = some (XOn n C a D)) (hth : ∃ o, h'.get? a = some o) : Un (frs l) [] H (upd H a (XOn false C a D)) h h' := by
  have ne : ∀ {b : Addr}, H b = none → b ≠ a := fun {b} e z => by rw [z, hx] at e; cases e
  refine ⟨fun b o e nb hb _ => N.keep b o (ne nb) e hb, fun b o e nb hb _ => N.slot b o (ne nb) e, fun b o e nb _ => by rw [upd_ne (ne nb)]; exact nb, fun b o e _ => ?_, fun b xs e => ?_, fun b o u e => ?_, fun b ps e => ?_⟩
  · by_cases z : b = a
    · rw [z]; exact hth
    · obtain ⟨sl, q⟩ := N.slot b o z e
      exact ⟨_, q⟩
  · rw [upd_ne (xo_ne hx e (by intro p z; cases z))]; exact e
  · rw [upd_ne (xo_ne hx e (by intro p z; cases z))]; exact e
  · exact ⟨#[], by rw [upd_ne (xo_ne hx e (by intro p z; cases z)), e]; simp⟩
end
def CXR (P : Program) (w : World) : CXT := fun outer H s E e s' => ∃ (a C : Addr) (D : Option Addr) (H' : Hp), e = .ref a ∧ Fly s'.heap a ∧ H' a = some (XOn false C a D) ∧ s'.os = s.os ∧ AllBare s'.gens ∧ Un (frs outer) [] H H' s.heap s'.heap ∧ HOk P w H' s'.heap ∧ E (.ref C) (some a) H'
theorem upd_self {H : Hp} {a : Addr} {o : HO} (e : H a = some o) : upd H a o = H := by
  funext b
  by_cases z : b = a
  · rw [z, upd_same, e]
  · rw [upd_ne z]
section
variable {P : Program} {w : World} {K : PySem.W.Frag} {mg : Str → Option Value} {base : Heap} {N : List Str} {qual : Str} {scope : Scope} {f : Addr} {cd : Value} {A : Around} {outer : List Env} {s : Shared} {H : Hp} {E : XK}
theorem leave_x {pins : List (Addr × Obj)} {σ : St} {H1 : Hp} {s1 : Shared} {n : Bool} {a C : Addr} {D : Option Addr} (I : Inv (cxOf (CXR P w) P w K mg base N qual scope f cd A outer s H E) pins σ H1 s1) (hx : H1 a = some (XOn n C a D)) (hn : n = true ∨ Fly s1.heap a)
    (e : E (.ref C) (some a) (upd H1 a (XOn false C a D))) : (cxOf (CXR P w) P w K mg base N qual scope f cd A outer s H E).xe (.ref a) s1 := by
  obtain ⟨vs, he, hv⟩ := xo_get I hx
  show wpAny (model P w) (A.deeper (envOfC qual scope s.heap.objs.size f cd)) (leaving (envOfC qual scope s.heap.objs.size f cd) (.ref a)) (fun _ s'' => CXR P w outer H s E (.ref a) s'') _ s1
  refine leaveP (base := base) (L := s.heap.objs.size) I.ok.frames I.stack rfl he rfl (hn.imp (fun z => hv z) id) fun h' Nt => ?_
  have ne : ∀ {b : Addr}, H1 b = none → b ≠ a := fun {b} e z => by rw [z, hx] at e; cases e
  obtain ⟨vs', ha'⟩ := Nt.exc _ _ he rfl
  have nex : ∀ b : Addr, b ∉ (cxOf (CXR P w) P w K mg base N qual scope f cd A outer s H E).ex := fun b z => nomatch (show b ∈ ([] : List Addr) from z)
  have nf : ∀ {b : Addr} {o : Obj}, s.heap.get? b = some o → b ∉ frs outer → b ∉ frs (envOfC qual scope s.heap.objs.size f cd :: outer) := fun {b o} e hb z => by
    rcases List.mem_cons.mp (I.stkSub b z) with q | q
    · exact Nat.lt_irrefl _ (show s.heap.objs.size < s.heap.objs.size by
        have := Heap.lt_size e
        rw [q] at this
        exact this)
    · exact hb q
  refine ⟨a, C, D, _, rfl, Nt.fly, upd_same, I.os, I.bare, ⟨fun b o q nb hb _ => ?_, fun b o q nb hb _ => ?_, fun b o q nb _ => ?_, fun b o q _ => ?_, fun b xs q => ?_, fun b o u q => ?_, fun b ps q => ?_⟩, noted_hok I.hok Nt hx I.stkFree, e⟩
  · exact Nt.keep b o (ne (I.base.free b o q nb (nex b))) (I.base.keep b o q nb hb (nex b)) (nf q hb)
  · obtain ⟨sl, q1⟩ := I.base.slot b o q nb hb (nex b)
    obtain ⟨sl', q2⟩ := Nt.slot b _ (ne (I.base.free b o q nb (nex b))) q1
    exact ⟨sl', q2⟩
  · have := I.base.free b o q nb (nex b)
    rw [upd_ne (ne this)]
    exact this
  · obtain ⟨o', q1⟩ := I.base.there b o q (nex b)
    by_cases z : b = a
    · rw [z]; exact ⟨_, ha'⟩
    · obtain ⟨sl, q2⟩ := Nt.slot b o' z q1
      exact ⟨_, q2⟩
  · have := I.base.tups b xs q
    rw [upd_ne (xo_ne hx this (by intro p z; cases z))]; exact this
  · have := I.base.frzs b o u q
    rw [upd_ne (xo_ne hx this (by intro p z; cases z))]; exact this
  · obtain ⟨more, this⟩ := I.base.tbls b ps q
    exact ⟨more, by rw [upd_ne (xo_ne hx this (by intro p z; cases z))]; exact this⟩
def tRaise (K : PySem.W.Frag) (E : XK) (te : TE) : TS := fun _ σ H => te σ H fun x H1 => ∃ (a C U : Addr) (D : Option Addr), x = .ref a ∧ H1 a = some (XO C a D) ∧ XCls K C U ∧ E (.ref C) (some a) (upd H1 a (XOn false C a D))
theorem ps_raise {x : Expr} {te : TE} {pos : Pos} (he : PE (cxOf (CXR P w) P w K mg base N qual scope f cd A outer s H E) x te) : PS (cxOf (CXR P w) P w K mg base N qual scope f cd A outer s H E) (.Raise (some x) none pos) (tRaise K E te) := by
  intro pins s1 σ H1 D I h
  refine x_Raise (I.ok.hd rfl) (thn (he pins s1 σ H1 _ I h) fun v s2 ⟨y, H2, I2, ry, a, C, U, D', ey, hx, T, q⟩ => ?_)
  subst ey
  obtain rfl : v = Value.ref a := ry
  obtain ⟨vs, ha, hv⟩ := xo_get I2 hx
  obtain ⟨_, _, nm, qn, N', bs, hdct, sn, sub, ab, col, dd, k0, k1, k2, k3, k5, hC⟩ := x_of I2.kIn T.ex
  exact ⟨a, C, D', vs, rfl, ⟨U, nm, qn, N', bs, hdct, sn, sub, ab, col, dd, k0, k1, k2, k3, k5, hC⟩, ha, hv rfl, leave_x I2 hx (.inl rfl) q⟩
end
end L2
namespace L2
open PySem PySem.Spec PyProof.Rows
section
variable {M : Model} {A : Around} {E : Value → Shared → Prop}
theorem x_match {h : Heap} {g : Array GenState} {d : Drawn} {t : Nat} {os : OsState} {e C C' : Addr} {oe : Obj} {Q : Bool → Shared → Prop} {nm q nm' q' : Str} {N N' : Addr} {bs bm bs' bm' : List Value} {hdct hdct' : Bool} {sn sn' : List Str} {sub sub' : List Value} {ab ab' : Bool} {col col' : Option Bool} {dd dd' : Option Addr} {k0 k1 k2 k3 k5 l0 l1 l2 l3 l5 : Option Value} {newId newId' : String}
    (hC : h.get? C = some (excClassObj nm q C N bs bm hdct sn sub ab col dd k0 k1 k2 k3 k5 newId)) (hC' : h.get? C' = some (excClassObj nm' q' C' N' bs' bm' hdct' sn' sub' ab' col' dd' l0 l1 l2 l3 l5 newId')) (he : h.get? e = some oe) (hcls : oe.cls = .ref C) (hbase : bm'.contains (.type "BaseException") = true)
    (hq : Q ((Value.ref C :: bm).contains (.ref C')) ⟨h, g, d, t, os⟩) : wpAny M A (excMatches (.ref e) (.ref C')) Q E ⟨h, g, d, t, os⟩ := by
  have hcB : (Value.ref C' :: bm').contains (.type "BaseException") = true := by rw [List.contains_cons, hbase, Bool.or_true]
  have f := tc_notTuple
  unfold excMatches
  repeat (first | (with_reducible refine wpAny_loadPart_at he ?_; rw [hcls]) | with_reducible refine wpAny_loadPart_at hC' ?_ | (with_reducible refine wpAny_isSubtype_exc hC' ?_; rw [hcB]) | (with_reducible refine wpAny_isSubtype_exc hC ?_; generalize hb : (Value.ref C :: bm).contains (.ref C') = b at hq ⊢) | wp_step)
  cases b <;> (wp_walk; exact hq)
end
def hIn (K : PySem.W.Frag) (C : Addr) : Bool := match K.lookup C with
  | some ⟨.type "type", _, .cls cd, sl⟩ => (match sl.toList with
    | [_, _, _, _, some (.builtin _), _] => cd.mro == .ref C :: cd.mro.drop 1 && !cd.hasDel && (cd.mro.drop 1).contains (.type "BaseException")
    | _ => false)
  | _ => false
theorem h_of {K : PySem.W.Frag} {h : Heap} {C : Addr} (X : K.In h) (q : hIn K C = true) :
    ∃ bm nm qn N bs hdct sn sub ab col dd k0 k1 k2 k3 k5 nid, h.get? C = some (excClassObj nm qn C N bs bm hdct sn sub ab col dd k0 k1 k2 k3 k5 nid) ∧ bm.contains (.type "BaseException") = true := by
  unfold hIn at q
  split at q
  · rename_i dd cd sl ho
    split at q
    · rename_i k0 k1 k2 k3 n k5 hs
      simp only [Bool.and_eq_true, beq_iff_eq, Bool.not_eq_true'] at q
      obtain ⟨⟨hm, hdel⟩, hb⟩ := q
      obtain ⟨nm, bs, mro, ns, qn, hdc, sn, sub, ab, col, del⟩ := cd
      dsimp only at hm hdel hb
      subst hdel
      have e : sl = #[k0, k1, k2, k3, some (.builtin n), k5] := by
        obtain ⟨l⟩ := sl
        simp only at hs
        rw [hs]
      subst e
      rw [hm] at ho
      exact ⟨_, nm, qn, ns, bs, hdc, sn, sub, ab, col, dd, k0, k1, k2, k3, k5, n, X _ _ ho, hb⟩
    · cases q
  · cases q
abbrev Cx.held (X : Cx) (a : Addr) : Cx := { X with A := X.A.mark (some (.ref a)), calm := false, xe := fun _ _ => False }
abbrev Cx.tried (X : Cx) (E : Value → Shared → Prop) (pn : List (Addr × Obj)) : Cx := { X with xe := E, pn := pn }
section
variable {X : Cx} {pins : List (Addr × Obj)} {σ : St} {H : Hp} {s : Shared} {E : Value → Shared → Prop} {a : Addr}
theorem Inv.hold (I : Inv X pins σ H s) (a : Addr) : Inv (X.held a) pins σ H s :=
  ⟨⟨I.ok.mod, I.ok.kind, I.ok.glob, I.ok.blt, I.ok.above, I.ok.inj, I.ok.has, I.ok.cab, (fun z => by cases z), I.ok.frames, I.ok.stk, I.ok.exf, I.ok.bs, I.ok.bsz, I.ok.noex, I.ok.exfs, I.ok.funs, I.ok.frf⟩, I.os, I.bare, I.base, I.loc, I.cell, I.free, I.freeC, I.pin, I.hok, I.len⟩
theorem Inv.unhold (hd : X.calm = true → X.A.handled = none) (I : Inv (X.held a) pins σ H s) : Inv X pins σ H s :=
  ⟨⟨I.ok.mod, I.ok.kind, I.ok.glob, I.ok.blt, I.ok.above, I.ok.inj, I.ok.has, I.ok.cab, hd, I.ok.frames, I.ok.stk, I.ok.exf, I.ok.bs, I.ok.bsz, I.ok.noex, I.ok.exfs, I.ok.funs, I.ok.frf⟩, I.os, I.bare, I.base, I.loc, I.cell, I.free, I.freeC, I.pin, I.hok, I.len⟩
theorem Inv.try' (I : Inv X pins σ H s) (E : Value → Shared → Prop) : Inv (X.tried E (X.pn ++ pins)) [] σ H s :=
  ⟨⟨I.ok.mod, I.ok.kind, I.ok.glob, I.ok.blt, I.ok.above, I.ok.inj, I.ok.has, I.ok.cab, I.ok.hd, I.ok.frames, I.ok.stk, I.ok.exf, I.ok.bs, I.ok.bsz, I.ok.noex, I.ok.exfs, I.ok.funs, I.ok.frf⟩, I.os, I.bare, I.base, I.loc, I.cell, I.free, I.freeC, (by rw [List.append_nil]; exact I.pin), I.hok, I.len⟩
theorem Inv.untry {pins' : List (Addr × Obj)} (I : Inv (X.tried E (X.pn ++ pins)) pins' σ H s) : Inv X pins σ H s :=
  ⟨⟨I.ok.mod, I.ok.kind, I.ok.glob, I.ok.blt, I.ok.above, I.ok.inj, I.ok.has, I.ok.cab, I.ok.hd, I.ok.frames, I.ok.stk, I.ok.exf, I.ok.bs, I.ok.bsz, I.ok.noex, I.ok.exfs, I.ok.funs, I.ok.frf⟩, I.os, I.bare, I.base, I.loc, I.cell, I.free, I.freeC, (fun p hp => I.pin p (List.mem_append_left _ hp)), I.hok, I.len⟩
end
abbrev TH := Addr → Addr → Ends → St → Hp → Prop
def PH (X : Cx) (hs : List ExceptHandler) (th : TH) : Prop :=
  ∀ (pins : List (Addr × Obj)) (s : Shared) (σ : St) (H : Hp) (D : Ends) (a C : Addr) (Dd : Option Addr), Inv X pins σ H s → H a = some (XOn false C a Dd) → Fly s.heap a → th a C D σ H → wpAny (model X.prog X.w) X.A (handleBy (.ref a) X.env hs) (SP X pins D) X.xe s
def tNone : TH := fun _ _ _ _ _ => False
theorem ph_nil {X : Cx} : PH X [] tNone := fun _ _ _ _ _ _ _ _ _ _ _ h => h.elim
def tOnly (K : PySem.W.Frag) (C' : Addr) (ts : Addr → TS) (tr : TH) : TH := fun a C D σ H => ∃ U, XCls K C U ∧ if (xMro C U).contains (.ref C') = true then ts a D σ H else tr a C D σ H
section
variable {X : Cx}
theorem SP.unhold {pins : List (Addr × Obj)} {D : Ends} {f : Flow} {s' : Shared} {a : Addr} (hd : X.calm = true → X.A.handled = none) (h : SP (X.held a) pins D f s') : SP X pins D f s' := by
  cases f with
  | next => obtain ⟨σ', H', I, q⟩ := h; exact ⟨σ', H', I.unhold hd, q⟩
  | brk => obtain ⟨σ', H', I, q⟩ := h; exact ⟨σ', H', I.unhold hd, q⟩
  | cont => obtain ⟨σ', H', I, q⟩ := h; exact ⟨σ', H', I.unhold hd, q⟩
  | ret u => obtain ⟨v, σ', H', I, r, q⟩ := h; exact ⟨v, σ', H', I.unhold hd, r, q⟩
theorem x_test {pins : List (Addr × Obj)} {s : Shared} {σ : St} {H : Hp} {a C U C' : Addr} {Dd : Option Addr} {x : Str} {p pos : Pos} {R : Result → Shared → Prop} (I : Inv X pins σ H s) (hx : H a = some (XOn false C a Dd)) (T : XCls X.K C U) (hT : hIn X.K C' = true) (hg : Gl X x) (hm : X.mg x = some (.ref C')) (hdb : (x == ("__debug__" : Str)) = false)
    (h : R (.ok (if (xMro C U).contains (.ref C') then .brk else .next)) s) : codeAny (model X.prog X.w) (X.A.mark (some (.ref a))) (.handlers (.ref a) [.ExceptHandler (some (.Name x p)) none [] pos] X.env) R s := by
  have Im := I.hold a
  obtain ⟨vs, he, _⟩ := xo_get I hx
  obtain ⟨_, _, nm, qn, N, bs, hdct, sn, sub, ab, col, dd, k0, k1, k2, k3, k5, hC⟩ := x_of I.kIn T.ex
  obtain ⟨bm, nm', qn', N', bs', hdct', sn', sub', ab', col', dd', l0, l1, l2, l3, l5, nid, hC', hbs⟩ := h_of I.kIn hT
  refine codeAny_handlers_test (ld_glob (X := X.held a) Im hg hm ?_ hdb)
  obtain ⟨hp, g, d, tk, os⟩ := s
  exact x_match hC hC' he rfl hbs h
theorem x_flight {M : Model} {A : Around} {E : Value → Shared → Prop} {pins : List (Addr × Obj)} {s : Shared} {σ : St} {H : Hp} {a : Addr} {Q : Unit → Shared → Prop} (I : Inv X pins σ H s) (fl : Fly s.heap a) (h : ∀ s', Inv X pins σ H s' → Q () s') : wpAny M A (setFlight (.ref a) none) Q E s := by
  obtain ⟨oe, vs, T, oT, ts, he, hd, h1, hTe, hT, hdT, h3⟩ := fl
  refine wpAny_setFlight_none he hd h1 hT hdT (Array.getElem?_eq_some_iff.mp h3).1 (h _ (I.kept (t' := s.toks) fun b u e => ?_))
  rw [upd_same_obj hT hdT h3]
  exact e
theorem ph_only {x : Str} {p pos : Pos} {C' : Addr} {b₀ : Stmt} {suite : List Stmt} {rest : List ExceptHandler} {ts : Addr → TS} {tr : TH} (hc : X.A.handled = none) (hT : hIn X.K C' = true) (hg : Gl X x) (hm : X.mg x = some (.ref C'))
    (hs : ∀ a, PSs (X.held a) (b₀ :: suite) (ts a)) (hr : PH X rest tr) (hdb : (x == ("__debug__" : Str)) = false := by decide) : PH X (.ExceptHandler (some (.Name x p)) none (b₀ :: suite) pos :: rest) (tOnly X.K C' ts tr) := by
  intro pins s σ H D a C Dd I hx fl h
  obtain ⟨U, T, h⟩ := h
  refine wpAny_handleBy_cons (x_test I hx T hT hg hm hdb ?_) (by intro q; cases q)
  cases hb : (xMro C U).contains (.ref C') with
  | false =>
    rw [hb, if_neg (by decide)] at h
    exact hr pins s σ H D a C Dd I hx fl h
  | true =>
    rw [hb, if_pos rfl] at h
    refine codeAny_handlers_suite (x_flight (I.hold a) fl fun s1 I1 => ?_)
    exact wpAny_mono (hs a pins s1 σ H _ I1 h) (fun f s3 q => q.unhold fun _ => hc) fun _ _ z => z.elim
def tTry (tb : XK → TS) (th : TH) : TS := fun D σ H => ∃ E1 : XK, tb E1 D σ H ∧ ∀ (C a : Addr) (Dd : Option Addr) (H' : Hp) (σ' : St), σ'.length = σ.length → H' a = some (XOn false C a Dd) → E1 (.ref C) (some a) H' → th a C D σ' H'
theorem ps_try {body : List Stmt} {h₀ : ExceptHandler} {hs : List ExceptHandler} {pos : Pos} {tb : XK → TS} {th : TH} (hst : X.stack = X.env :: X.outer) (hf : X.env.frame = some X.env.locals)
    (hb : ∀ (E1 : XK) (xe' : Value → Shared → Prop) (pn : List (Addr × Obj)), Passes (CXR X.prog X.w) (X.tried xe' pn) E1 → PSs (X.tried xe' pn) body (tb E1)) (hh : PH X (h₀ :: hs) th) : PS X (.Try body (h₀ :: hs) [] [] pos) (tTry tb th) := by
  intro pins s σ H D I h
  obtain ⟨E1, hb', hh'⟩ := h
  refine wpAny_Try_except ?_
  have hp : Passes (CXR X.prog X.w) (X.tried (fun e s₁ => wpAny (model X.prog X.w) X.A (noteFrame e X.env) (fun _ s₂ => wpAny (model X.prog X.w) X.A (setFlight e none) (fun _ s₃ => wpAny (model X.prog X.w) X.A (handleBy e X.env (h₀ :: hs)) (SP X pins D) X.xe s₃) X.xe s₂) X.xe s₁) (X.pn ++ pins)) E1 := by
    rintro pins' σ' H1 s1 e s2 J ⟨a, C, Dd, H2, rfl, fl, hx, os, bare, un, hok, q⟩
    have J2 := J.call' os un hok bare fun b z => nomatch (show b ∈ ([] : List Addr) from z)
    have J3 : Inv X pins σ' H2 s2 := J2.untry
    obtain ⟨vs, he, _⟩ := xo_get J3 hx
    show wpAny (model X.prog X.w) X.A (noteFrame (.ref a) X.env) _ _ s2
    refine noteP (base := X.base) (L := X.env.locals) (outer := X.outer) (by rw [← hst]; exact J3.ok.frames) (by rw [← hst]; exact J3.stack) hf he rfl (.inr fl) fun h' Nt => ?_
    obtain ⟨vs', ha'⟩ := Nt.exc _ _ he rfl
    rw [← hst] at Nt
    have J4 := J3.call (h' := h') (g' := s2.gens) (d' := s2.drawn) (t' := s2.toks) (noted_un Nt hx ⟨_, ha'⟩) (noted_hok J3.hok Nt hx J3.stkFree) J3.bare fun b z => nomatch (show b ∈ ([] : List Addr) from z)
    rw [upd_self hx] at J4
    exact hh pins _ σ' H2 D a C Dd J4 hx Nt.fly (hh' C a Dd H2 σ' (J3.len.trans I.len.symm) hx q)
  refine wpAny_mono (hb E1 _ _ hp [] s σ H D (I.try' _) hb') (fun f s1 q => ?_) fun _ _ z => z
  cases f with
  | next => obtain ⟨σ', H', J, q⟩ := q; exact wpAny_execs_nil ⟨σ', H', J.untry, q⟩
  | brk => obtain ⟨σ', H', J, q⟩ := q; exact ⟨σ', H', J.untry, q⟩
  | cont => obtain ⟨σ', H', J, q⟩ := q; exact ⟨σ', H', J.untry, q⟩
  | ret u => obtain ⟨v, σ', H', J, r, q⟩ := q; exact ⟨v, σ', H', J.untry, r, q⟩
end
end L2
namespace Kn
open PySem
def Lev (j : Nat) (k : Int) : Prop := j ≤ 8 ∧ ∃ m : Nat, k = ((2 * m + 1) * 2 ^ j : Nat) ∧ (2 * m + 1) * 2 ^ j < 512
theorem low_all : ∀ j : Fin 9, ∀ m : Fin 256, (2 * m.val + 1) * 2 ^ j.val < 512 → Builtin.bitAnd (((2 * m.val + 1) * 2 ^ j.val : Nat) : Int) (-(((2 * m.val + 1) * 2 ^ j.val : Nat) : Int)) = ((2 ^ j.val : Nat) : Int) := by decide +kernel
theorem Lev.low {j : Nat} {k : Int} (h : Lev j k) : Builtin.bitAnd k (-k) = ((2 ^ j : Nat) : Int) := by
  obtain ⟨hj, m, rfl, hm⟩ := h
  have h2 : 1 ≤ 2 ^ j := Nat.one_le_two_pow
  have hm2 : m < 256 := by
    have : (2 * m + 1) * 1 ≤ (2 * m + 1) * 2 ^ j := Nat.mul_le_mul_left _ h2
    omega
  exact low_all ⟨j, by omega⟩ ⟨m, hm2⟩ hm
theorem Lev.top : Lev 8 256 := ⟨by omega, 0, rfl, by decide⟩
theorem Lev.left {j : Nat} {k : Int} (h : Lev (j + 1) k) : Lev j (k - ((2 ^ j : Nat) : Int)) := by
  obtain ⟨hj, m, rfl, hm⟩ := h
  refine ⟨by omega, 2 * m, ?_, ?_⟩
  · rw [Nat.pow_succ]
    have : (2 * m + 1) * (2 ^ j * 2) = (2 * (2 * m) + 1) * 2 ^ j + 2 ^ j := by
      rw [Nat.mul_comm (2 ^ j) 2, ← Nat.mul_assoc, ← Nat.succ_mul]
      congr 1
      omega
    rw [this]
    omega
  · rw [Nat.pow_succ] at hm
    have : (2 * m + 1) * (2 ^ j * 2) = (2 * (2 * m) + 1) * 2 ^ j + 2 ^ j := by
      rw [Nat.mul_comm (2 ^ j) 2, ← Nat.mul_assoc, ← Nat.succ_mul]
      congr 1
      omega
    rw [this] at hm
    exact Nat.lt_of_le_of_lt (Nat.le_add_right _ _) hm
theorem pow_le_8 {j : Nat} (h : j ≤ 8) : 2 ^ j ≤ 256 := Nat.pow_le_pow_right (by decide) h
theorem Lev.right {j : Nat} {k : Int} (h : Lev (j + 1) k) : Lev j (k + ((2 ^ j : Nat) : Int)) := by
  obtain ⟨hj, m, rfl, hm⟩ := h
  have e : (2 * m + 1) * 2 ^ (j + 1) + 2 ^ j = (2 * (2 * m + 1) + 1) * 2 ^ j := by
    rw [Nat.pow_succ, Nat.mul_comm (2 ^ j) 2, ← Nat.mul_assoc, ← Nat.succ_mul]
    congr 1
    omega
  refine ⟨by omega, 2 * m + 1, ?_, ?_⟩
  · rw [← e]; omega
  · rw [← e]
    have h8 : 512 = 2 ^ (8 - j) * 2 ^ (j + 1) := by
      rw [← Nat.pow_add, show 8 - j + (j + 1) = 9 by omega]
    rw [h8] at hm ⊢
    have lt : 2 * m + 1 < 2 ^ (8 - j) := Nat.lt_of_mul_lt_mul_right hm
    have le : (2 * m + 1 + 1) * 2 ^ (j + 1) ≤ 2 ^ (8 - j) * 2 ^ (j + 1) := Nat.mul_le_mul_right _ lt
    have p : 2 ^ j < 2 ^ (j + 1) := Nat.pow_lt_pow_right (by decide) (by omega)
    rw [Nat.succ_mul] at le
    omega
def wayL : Nat → Int → Int → Int → List Int
  | 0, k, _, _ => [k]
  | j + 1, k, f, l => if f + 1 ≤ k ∧ k ≤ l + 1 then [k] else if l + 1 < k then k :: wayL j (k - ((2 ^ j : Nat) : Int)) f l else k :: wayL j (k + ((2 ^ j : Nat) : Int)) f l
def way (f l : Int) : List Int := wayL 8 256 f l
def Under (j : Nat) (k f l : Int) : Prop := k - ((2 ^ j : Nat) : Int) < f + 1 ∧ l + 1 < k + ((2 ^ j : Nat) : Int) ∧ f ≤ l
theorem Under.top {f l : Int} (h0 : 0 ≤ f) (h1 : f ≤ l) (h2 : l < 400) : Under 8 256 f l := by
  unfold Under
  have : ((2 ^ 8 : Nat) : Int) = 256 := by decide
  omega
theorem Under.left {j : Nat} {k f l : Int} (h : Under (j + 1) k f l) (hk : l + 1 < k) : Under j (k - ((2 ^ j : Nat) : Int)) f l := by
  unfold Under at h ⊢
  rw [Nat.pow_succ] at h
  omega
theorem Under.right {j : Nat} {k f l : Int} (h : Under (j + 1) k f l) (hk : k < f + 1) : Under j (k + ((2 ^ j : Nat) : Int)) f l := by
  unfold Under at h ⊢
  rw [Nat.pow_succ] at h
  omega
theorem Under.zero {k f l : Int} (h : Under 0 k f l) : f + 1 ≤ k ∧ k ≤ l + 1 := by
  unfold Under at h
  have : ((2 ^ 0 : Nat) : Int) = 1 := by decide
  omega
end Kn
namespace L2
open PySem PySem.Spec PyProof.Rows
end L2
namespace L2
open PySem PySem.Spec PyProof.Rows
def withoutH {K : Type} [DecidableEq K] (xs : List (K × Addr × Value)) (k : K) : List (K × Addr × Value) := xs.filter fun x => decide (x.1 ≠ k)
theorem erase_eq_without {K : Type} [DecidableEq K] {k : K} : ∀ {xs : List (K × Addr × Value)} {j : Nat} {p : Addr × Value}, (xs.map (·.1)).Nodup → xs[j]? = some (k, p) → xs.eraseIdx j = withoutH xs k
  | [], j, p, _, h => by simp at h
  | x :: xs, 0, p, hn, h => by
    have hx : x = (k, p) := by simpa using h
    subst hx
    have hn' : k ∉ xs.map (·.1) := (List.nodup_cons.mp hn).1
    rw [List.eraseIdx_cons_zero]
    unfold withoutH
    rw [List.filter_cons_of_neg (by simp)]
    refine (List.filter_eq_self.mpr fun y hy => ?_).symm
    exact decide_eq_true fun e => hn' (e ▸ List.mem_map_of_mem hy)
  | x :: xs, j + 1, p, hn, h => by
    have h' : xs[j]? = some (k, p) := by simpa using h
    have hne : x.1 ≠ k := fun e => (List.nodup_cons.mp hn).1 (by
      have := List.mem_map_of_mem (f := fun z : K × Addr × Value => z.1) (List.mem_of_getElem? h')
      show x.1 ∈ _
      rw [e]
      exact this)
    rw [List.eraseIdx_cons_succ, erase_eq_without (List.nodup_cons.mp hn).2 h']
    unfold withoutH
    rw [List.filter_cons_of_pos (by simpa using hne)]
theorem eraseIdx_map' {α β : Type} (f : α → β) : ∀ (xs : List α) (j : Nat), (xs.map f).eraseIdx j = (xs.eraseIdx j).map f
  | [], j => by simp
  | x :: xs, 0 => by simp
  | x :: xs, j + 1 => by simp [eraseIdx_map' f xs j]
section
variable {prog : Program} {w : World} {K : Type} [DecidableEq K] {knd : HeapKind prog w K} {A : Around} {E : Value → Shared → Prop} {s : Shared}
theorem takeOut_heap {d a : Addr} {xs : List (K × Addr × Value)} {k : K} {p : Addr × Value} {Q : Option DictEntry → Shared → Prop} (hu : knd.room A) (hkey : knd.is s.heap k a) (hm : s.heap.DictOfH knd d xs) (hp : atKey xs k = some p) (hsz : xs.length ≤ sizeLine)
    (hQ : ∀ e h', e.val = p.2 → h'.DictOfH knd d (withoutH xs k) → Heap.SameBut d s.heap h' → Q (some e) { s with heap := h', toks := s.toks + knd.draws k }) :
    wpAny (model prog w) A (Builtin.Dict.takeOut d (.ref a)) Q E s := by
  obtain ⟨o, es, ep, ho, hc, hd, he, his, hn⟩ := hm
  have hes : es.size ≤ sizeLine := by have e := size_of_entries he; omega
  unfold Builtin.Dict.takeOut
  try with_reducible refine wpAny_holding ?_
  refine wpAny_bind (knd.pyHash hu hkey ?_)
  refine wpAny_bind (wpAny_dictFind_heap (s := { s with toks := s.toks + knd.draws k }) hu hkey ho hd he his hn ?_ ?_)
  · intro hno
    rw [atKey_none_of_get hno] at hp
    cases hp
  · intro j p' hj
    rw [atKey_of_get hn hj] at hp
    obtain rfl := Option.some.inj hp
    refine wpAny_bind (wpAny_dictEntries (s := { s with toks := s.toks + knd.draws k }) ho hd ?_)
    rw [entry_at he j, hj]
    refine wpAny_bind (wpAny_updateDictKeys (hz := hes) (s := { s with toks := s.toks + knd.draws k }) ho hd (wpAny_pure (hQ _ _ rfl ⟨_, _, ep + 1, Heap.get?_update_self _ ho (Obj.isFreed_of_dict (Obj.data_mapDictKeys hd _)),
      hc.mapDictKeys _, Obj.data_mapDictKeys hd _, ?_, ?_, ?_⟩ (Heap.SameBut.update ..))))
    · rw [← erase_eq_without hn hj]
      have hlt : j < es.size := by have := size_of_entries he; have := (List.getElem?_eq_some_iff.mp hj).1; omega
      have : (es.eraseIdxIfInBounds j).toList = es.toList.eraseIdx j := by
        obtain ⟨l⟩ := es
        simp
      rw [this, he, eraseIdx_map']
    · intro x hx
      exact knd.keeps (his x (List.mem_filter.mp hx).1) ho hd (Heap.SameBut.update ..)
    · exact List.Nodup.sublist (List.Sublist.map _ List.filter_sublist) hn
theorem setDefault_heap {d a : Addr} {xs : List (K × Addr × Value)} {k : K} {dflt : Value} {Q : Value → Shared → Prop} (hu : knd.room A) (hkey : knd.is s.heap k a) (hm : s.heap.DictOfH knd d xs) (hsz : xs.length ≤ sizeLine)
    (hthere : ∀ p, atKey xs k = some p → Q p.2 { s with toks := s.toks + knd.draws k })
    (hnew : atKey xs k = none → ∀ h', h'.DictOfH knd d (storedH xs k a dflt) → Heap.SameBut d s.heap h' → Q dflt { s with heap := h', toks := s.toks + knd.draws k }) :
    wpAny (model prog w) A (dictSetDefault d (.ref a) dflt) Q E s := by
  obtain ⟨o, es, ep, ho, hc, hd, he, his, hn⟩ := hm
  have hes : es.size ≤ sizeLine := by have e := size_of_entries he; omega
  unfold dictSetDefault
  try with_reducible refine wpAny_holding ?_
  refine wpAny_bind (knd.pyHash hu hkey ?_)
  refine wpAny_bind (wpAny_dictFind_heap (s := { s with toks := s.toks + knd.draws k }) hu hkey ho hd he his hn ?_ ?_)
  · intro hno
    have hnot : k ∉ xs.map (·.1) := not_mem_keys_of_get hno
    refine wpAny_bind (wpAny_rule (wpAny_bind (wpAny_updateDictKeys (hz := hes) (s := { s with toks := s.toks + knd.draws k }) ho hd (wpAny_pure (hnew (atKey_none_of_get hno) _ ⟨_, _, ep + 1, Heap.get?_update_self _ ho (Obj.isFreed_of_dict (Obj.data_mapDictKeys hd _)),
      hc.mapDictKeys _, Obj.data_mapDictKeys hd _, ?_, ?_, ?_⟩ (Heap.SameBut.update ..))))))
    · rw [storedH_new (atKey_none_of_get hno)]
      simp [he, entryOfKey]
    · rw [storedH_new (atKey_none_of_get hno)]
      intro x hx
      rcases List.mem_append.mp hx with hx | hx
      · exact knd.keeps (his x hx) ho hd (Heap.SameBut.update ..)
      · simp only [List.mem_singleton] at hx
        subst hx
        exact knd.keeps hkey ho hd (Heap.SameBut.update ..)
    · rw [storedH_new (atKey_none_of_get hno)]
      rw [List.map_append, List.nodup_append]
      refine ⟨hn, by simp, ?_⟩
      intro x hx y hy
      simp only [List.map_cons, List.map_nil, List.mem_singleton] at hy
      subst hy
      exact fun e => hnot (e ▸ hx)
  · intro j p hj
    refine wpAny_bind (wpAny_dictEntries (s := { s with toks := s.toks + knd.draws k }) ho hd ?_)
    rw [entry_at he j, hj]
    exact wpAny_bind (wpAny_rule (wpAny_pure (hthere p (atKey_of_get hn hj))))
theorem meetsH_pop (knd : HeapKind prog w K) (d a : Addr) :
    MeetsIn prog w (Builtin.«dict.pop» ⟨[.ref d, .ref a], []⟩) (fun A R s => knd.room A.in1 ∧ ∃ k xs p, knd.is s.heap k a ∧ s.heap.DictOfH knd d xs ∧ xs.length ≤ sizeLine ∧ atKey xs k = some p ∧
      ∀ h', h'.DictOfH knd d (withoutH xs k) → Heap.SameBut d s.heap h' → R (.ok (.ret p.2)) { s with heap := h', toks := s.toks + knd.draws k }) :=
  .of_wp fun A R s ⟨hu, k, xs, p, hkey, hm, hsz, hp, h⟩ => by
    unfold Builtin.«dict.pop»
    refine wpAny_bind ?_
    unfold Builtin.Dict.keyAndDefault
    refine wpAny_bind (wpAny_notOrdered_dict hm.typeIs ?_)
    show wpAny _ _ (pure (d, Value.ref a, none)) _ _ s
    refine wpAny_pure ?_
    have hne : xs ≠ [] := fun e => by rw [e] at hp; cases hp
    refine wpAny_bind ?_
    have hk : (keyPart (Value.ref a)).isSome = false := rfl
    simp only [hk, Bool.false_eq_true, if_false]
    obtain ⟨o, es, ep, ho, hc, hd, he, his, hn⟩ := id hm
    refine wpAny_dictEntries ho hd (wpAny_bind (wpAny_pure ?_))
    have hem : es.isEmpty = false := by
      have e := size_of_entries he
      have : 0 < xs.length := List.length_pos_iff.mpr hne
      rw [Array.isEmpty]
      exact decide_eq_false (by omega)
    simp only [hem, Bool.false_eq_true, if_false]
    refine wpAny_bind (takeOut_heap hu hkey hm hp hsz fun e h' hev hm' hs' => ?_)
    simp only [Option.isNone_some, Bool.false_eq_true, if_false]
    exact wpAny_bind (wpAny_letGo (wpAny_pure ⟨e.val, rfl, by rw [hev]; exact h h' hm' hs'⟩))
theorem meetsH_setdefault (knd : HeapKind prog w K) (d a : Addr) (hd : (d == sysModules) = false) (dflt : Value) :
    MeetsIn prog w (Builtin.«dict.setdefault» ⟨[.ref d, .ref a, dflt], []⟩) (fun A R s => knd.room A.in1 ∧ ∃ k xs, knd.is s.heap k a ∧ s.heap.DictOfH knd d xs ∧ xs.length ≤ sizeLine ∧
      (∀ p, atKey xs k = some p → R (.ok (.ret p.2)) { s with toks := s.toks + knd.draws k }) ∧
      (atKey xs k = none → ∀ h', h'.DictOfH knd d (storedH xs k a dflt) → Heap.SameBut d s.heap h' → R (.ok (.ret dflt)) { s with heap := h', toks := s.toks + knd.draws k })) :=
  .of_wp fun A R s ⟨hu, k, xs, hkey, hm, hsz, h1, h2⟩ => by
    unfold Builtin.«dict.setdefault»
    refine wpAny_bind ?_
    unfold Builtin.Dict.keyAndDefault
    refine wpAny_bind (wpAny_notOrdered_dict hm.typeIs ?_)
    show wpAny _ _ (pure (d, Value.ref a, some dflt)) _ _ s
    refine wpAny_pure ?_
    show wpAny _ _ (if (d == sysModules) = true then _ else (dictSetDefault d (.ref a) dflt >>= _)) _ _ s
    rw [if_neg (by rw [hd]; exact Bool.false_ne_true)]
    exact wpAny_bind (setDefault_heap hu hkey hm hsz (fun p hp => wpAny_pure ⟨p.2, rfl, h1 p hp⟩) fun hn h' hm' hs' => wpAny_pure ⟨dflt, rfl, h2 hn h' hm' hs'⟩)
end
theorem KT.drop {H : Hp} {kvs : List (List Key × V)} {xs : List (List Key × Addr × Value)} (r : KT H kvs xs) (k : List Key) : KT H (dropK kvs k) (withoutH xs k) := by
  induction r with
  | nil => exact .nil
  | @cons p q ps qs h t ih =>
    unfold dropK withoutH at ih ⊢
    obtain ⟨h1, h2, h3⟩ := h
    by_cases e : p.1 = k
    · rw [List.filter_cons_of_neg (by simp [e]), List.filter_cons_of_neg (by simp [← h1, e])]
      exact ih
    · rw [List.filter_cons_of_pos (by simpa using e), List.filter_cons_of_pos (by rw [← h1]; simpa using e)]
      exact .cons ⟨h1, h2, h3⟩ ih
section
variable {X : Cx} {pins : List (Addr × Obj)} {σ : St} {H : Hp} {s : Shared} {a b : Addr} {kvs : List (List Key × V)} {k : List Key} {A : Around} {E : Value → Shared → Prop}
theorem dt_write {h' : Heap} {t' : Nat} {kvs' : List (List Key × V)} {xs' : List (List Key × Addr × Value)} (I : Inv X pins σ H s) (e : H a = some (.dT kvs)) (hd : (a == sysModules) = false) (hl : kvs'.length ≤ sizeLine) (rel : KT H kvs' xs') (dd : h'.DictOfH (tupleKind (mixKind X.prog X.w)) a xs') (hs : Heap.SameBut a s.heap h') :
    Inv X pins σ (upd H a (.dT kvs')) { s with heap := h', toks := t' } := by
  obtain ⟨q, es, ep, hq, h2, h3, h4, _, h5⟩ := dd
  refine d_write I (by rw [e]; exact True.intro) hs ⟨q, hq⟩ ⟨hl, hd, _, rel.keeps fun c ys ec => ?_, q, es, ep, hq, h2, h3, h4, h5⟩
  rw [upd_ne (ne_of ec e (fun z => nomatch z))]
  exact ec
theorem d_popT {v : V} {Q : Value → Shared → Prop} (hu : A.units + 1 < cLine) (I : Inv X pins σ H s) (e : H a = some (.dT kvs)) (eb : H b = some (.tup (k.map kV))) (l : valV kvs k = some v)
    (h : ∀ w' s', Inv X pins σ (upd H a (.dT (dropK kvs k))) s' → RelV v w' → Q w' s') : wpAny (model X.prog X.w) A (call (.builtin "dict.pop") [.ref a, .ref b]) Q E s := by
  obtain ⟨z, hd, xs, rel, dd⟩ := dt_of I.hok e
  obtain ⟨w', hw, rw'⟩ := RelO.some_of (v := v) (o := (atKey xs k).map (·.2)) (by rw [← l]; exact rel.val k)
  obtain ⟨p, hp, hp2⟩ := Option.map_eq_some_iff.mp hw
  refine call_meetsIn PySem.F.slot_dict_pop dd.typeIs PySem.F.entry_dict_pop (PySem.F.args_dict_pop_2 _ _) (meetsH_pop (tupleKind (mixKind X.prog X.w)) a b)
    ⟨tupleKind_room_in1 hu, k, xs, p, key_of I.hok eb, dd, by rw [← Paired.length rel]; exact z, hp, fun h' dd' hs => ?_⟩
  rw [hp2]
  exact h w' _ (dt_write I e hd (Nat.le_trans (dropK_le kvs k) z) (rel.drop k) dd' hs) rw'
theorem d_setdefT {y : V} {r : Value} {Q : Value → Shared → Prop} (hu : A.units + 1 < cLine) (I : Inv X pins σ H s) (e : H a = some (.dT kvs)) (eb : H b = some (.tup (k.map kV))) (ry : RelV y r) (hz : kvs.length < sizeLine)
    (h1 : ∀ v w' s', valV kvs k = some v → Inv X pins σ H s' → RelV v w' → Q w' s') (h2 : ∀ s', valV kvs k = none → Inv X pins σ (upd H a (.dT (putK kvs k y))) s' → Q r s') :
    wpAny (model X.prog X.w) A (call (.builtin "dict.setdefault") [.ref a, .ref b, r]) Q E s := by
  obtain ⟨z, hd, xs, rel, dd⟩ := dt_of I.hok e
  have hl : (putK kvs k y).length ≤ sizeLine := by have := length_putK kvs k y; omega
  refine call_meetsIn PySem.F.slot_dict_setdefault dd.typeIs PySem.F.entry_dict_setdefault (PySem.F.args_dict_setdefault_3 _ _ _) (meetsH_setdefault (tupleKind (mixKind X.prog X.w)) a b hd r)
    ⟨tupleKind_room_in1 hu, k, xs, key_of I.hok eb, dd, by rw [← Paired.length rel]; exact z, fun p hp => ?_, fun hn h' dd' hs => ?_⟩
  · have q := rel.val k
    rw [hp] at q
    cases hv : valV kvs k with
    | none => rw [hv] at q; exact q.elim
    | some v => rw [hv] at q; exact h1 v _ _ hv (I.tok _) q
  · have q := rel.val k
    rw [hn] at q
    have hv : valV kvs k = none := by
      cases hv : valV kvs k with
      | none => rfl
      | some v => rw [hv] at q; exact q.elim
    exact h2 _ hv (dt_write I e hd hl (rel.put k eb ry) dd' hs)
end
inductive dpopTR (a : Addr) (y : V) (H2 : Hp) (Q : VK) : Prop
  | mk (kvs k v b) (h1 : H2 a = some (.dT kvs)) (h2 : y = .ref b) (h3 : H2 b = some (.tup (k.map kV))) (h4 : valV kvs k = some v) (h5 : Q v (upd H2 a (.dT (dropK kvs k)))) : dpopTR a y H2 Q
inductive dsetTR (a : Addr) (y z : V) (H3 : Hp) (Q : VK) : Prop
  | mk (kvs k b) (h1 : H3 a = some (.dT kvs)) (h2 : y = .ref b) (h3 : H3 b = some (.tup (k.map kV))) (h4 : kvs.length < sizeLine) (h5 : ∀ v, valV kvs k = some v → Q v H3) (h6 : valV kvs k = none → Q z (upd H3 a (.dT (putK kvs k z)))) : dsetTR a y z H3 Q
def tDPopT (td ty : TE) : TE := fun σ H Q => td σ H fun x H1 => ∃ a, x = .ref a ∧ IsD H1 a ∧ ty σ H1 fun y H2 => dpopTR a y H2 Q
def tDSetT (td ty tx : TE) : TE := fun σ H Q => td σ H fun x H1 => ∃ a, x = .ref a ∧ IsD H1 a ∧ ty σ H1 fun y H2 => tx σ H2 fun z H3 => dsetTR a y z H3 Q
section
variable {X : Cx} {o e f : Expr} {apos cpos : Pos} {td ty tx : TE}
theorem pe_dpopT (hu : X.A.units + 1 < cLine) (ho : PE X o td) (he : PE X e ty) (m : M1 X o "pop" apos e cpos) : PE X (.Call (.Attribute o "pop" apos) [e] [] cpos) (tDPopT td ty) := by
  intro pins s σ H Q I h
  refine wpAny_Call_method m.base m.few m.line PySem.F.plainAttrs_dict PySem.F.slot_dict_pop PySem.F.type_dict_pop (thn (ho pins s σ H _ I h) fun u s1 ⟨x, H1, I1, rx, a, ex, d, q1⟩ => ?_)
  subst ex
  obtain rfl : u = Value.ref a := rx
  obtain ⟨t1, t2, _⟩ := isD_at I1 d
  refine ⟨t1, t2, ?_⟩
  rw [m.trees]
  refine Calls.callWith_builtin rfl (Calls.evalArgs_plain (Calls.spliced_cons (thn (he pins s1 σ H1 _ I1 q1) fun iv s2 ⟨y, H2, I2, ry, kvs, k, v, b, ea, ey, eb, l, q2⟩ => Calls.spliced_nil ?_)))
  subst ey
  obtain rfl : iv = Value.ref b := ry
  exact d_popT hu I2 ea eb l fun w' s3 I3 rw' => ⟨v, _, I3, rw', q2⟩
theorem pe_dsetT (hu : X.A.units + 1 < cLine) (ho : PE X o td) (he : PE X e ty) (hf : PE X f tx) (m : M2 X o "setdefault" apos e f cpos) : PE X (.Call (.Attribute o "setdefault" apos) [e, f] [] cpos) (tDSetT td ty tx) := by
  intro pins s σ H Q I h
  refine wpAny_Call_method m.base m.few m.line PySem.F.plainAttrs_dict PySem.F.slot_dict_setdefault PySem.F.type_dict_setdefault (thn (ho pins s σ H _ I h) fun u s1 ⟨x, H1, I1, rx, a, ex, d, q1⟩ => ?_)
  subst ex
  obtain rfl : u = Value.ref a := rx
  obtain ⟨t1, t2, _⟩ := isD_at I1 d
  refine ⟨t1, t2, ?_⟩
  rw [m.trees]
  refine Calls.callWith_builtin rfl (Calls.evalArgs_plain (Calls.spliced_cons (thn (he pins s1 σ H1 _ I1 q1) fun iv s2 ⟨y, H2, I2, ry, q2⟩ =>
    Calls.spliced_cons (thn (hf pins s2 σ H2 _ I2 q2) fun fv s3 ⟨z, H3, I3, rz, kvs, k, b, ea, ey, eb, hz, q3, q4⟩ => Calls.spliced_nil ?_))))
  subst ey
  obtain rfl : iv = Value.ref b := ry
  exact d_setdefT hu I3 ea eb rz hz (fun v w' s4 hv I4 rw' => ⟨v, H3, I4, rw', q3 v hv⟩) fun s4 hn I4 => ⟨z, _, I4, rz, q4 hn⟩
end
end L2
namespace PySem.SeqAt
open AutoSeq1 (wpAny_loadPart')
open MeetsSeq MeetsSeq2 MeetsSeq3 SeqRoads2
theorem remove_loopAt (l : Addr) (items : Array Value) (n : Nat) (x : Value) (e : Value → Bool) (j : Nat) (hj : j < items.size) (hit : e items[j] = true) (hs1 : items.size ≤ sizeLine) (k : Nat) :
    ∀ i : Nat, j - i = k → i ≤ j → (∀ m (hm : m < items.size), i ≤ m → m < j → e items[m] = false) → Meets (Builtin.«list.remove.loop» ⟨[.ref l, x, rawInt i], []⟩)
      (fun A R s => s.heap.get? l = some { cls := .type "list", dict := none, data := .seq items n, slots := #[] } ∧ (∀ y, y ∈ items → EqAt A.in1 s y x (e y)) ∧ R (.ok (.ret .none)) { s with heap := s.heap.update l (Obj.mapSeq fun xs => xs.eraseIdxIfInBounds j) }) := by
  induction k with
  | zero =>
    intro i hk hij hno prog w A R s h
    obtain ⟨hp, g, d, tk, os⟩ := s; obtain ⟨hl, he, h⟩ := h
    have hij' : i = j := by omega
    subst hij'
    wp_walk using wpAny_loadPart' hl
    have hi : items[((i : Nat) : Int).toNat]? = some items[i] := by simp [hj]
    rw [hi]
    refine wpAny_bind (he _ (Array.getElem_mem hj) prog w _ _ ?_)
    rw [hit]
    have hz' : (items.eraseIdxIfInBounds i).size ≤ sizeLine + 1 := Nat.le_trans (size_erased items _) (Nat.le_succ_of_le hs1)
    wp_walk using (wpAny_updateSeq hl rfl (hz := hs1) (_hz' := hz')), wpAny_loadPart' hl
    simpa using h
  | succ k ih =>
    intro i hk hij hno prog w A R s h
    obtain ⟨hp, g, d, tk, os⟩ := s; obtain ⟨hl, he, h⟩ := h
    have hlt : i < items.size := by omega
    wp_walk using wpAny_loadPart' hl
    have hi : items[((i : Nat) : Int).toNat]? = some items[i] := by simp [hlt]
    have hc : ((i : Int) + 1) = ((i + 1 : Nat) : Int) := by push_cast; rfl
    rw [hi]
    refine wpAny_bind (he _ (Array.getElem_mem hlt) prog w _ _ ?_)
    rw [hno i hlt (Nat.le_refl _) (by omega)]
    wp_walk
    rw [hc]
    exact ⟨plainId_quiet plain_remove_loop _, codeAny_builtin entry_remove_loop (by
      rw [Around.under_plainId plain_remove_loop _]
      exact ih (i + 1) (by omega) (by omega) (fun m hm h1 h2 => hno m hm (by omega) h2) prog w A R _ ⟨hl, he, h⟩)⟩
theorem list_removeAt (l : Addr) (items : Array Value) (n : Nat) (x : Value) (e : Value → Bool) (j : Nat) (hj : j < items.size) (hit : e items[j] = true) (hno : ∀ m (hm : m < items.size), m < j → e items[m] = false) (hs1 : items.size ≤ sizeLine) :
    Meets (Builtin.«list.remove» ⟨[.ref l, x], []⟩)
      (fun A R s => s.heap.get? l = some { cls := .type "list", dict := none, data := .seq items n, slots := #[] } ∧ (∀ y, y ∈ items → EqAt A.in1 s y x (e y)) ∧ R (.ok (.ret .none)) { s with heap := s.heap.update l (Obj.mapSeq fun xs => xs.eraseIdxIfInBounds j) }) := by
  intro prog w A R s h
  obtain ⟨hp, g, d, tk, os⟩ := s; obtain ⟨hl, he, h⟩ := h
  wp_walk using wpAny_loadPart' hl
  exact ⟨plainId_quiet plain_remove_loop _, codeAny_builtin entry_remove_loop (by
    rw [Around.under_plainId plain_remove_loop _]
    exact remove_loopAt l items n x e j hj hit hs1 _ 0 rfl (Nat.zero_le _) (fun m hm _ h2 => hno m hm h2) prog w A R _ ⟨hl, he, h⟩)⟩
end PySem.SeqAt
namespace L2
open PySem PySem.Spec PyProof.Rows
abbrev RwB := Str × Int × Int
def rowB (r : RwB) : List V := [.str r.1, .int r.2.1, .int r.2.2]
abbrev RowB (H : Hp) : List Addr → List RwB → Prop := Paired fun p r => H p = some (.tup (rowB r))
theorem isTup {X : Cx} {pins : List (Addr × Obj)} {σ : St} {H : Hp} {s : Shared} {p : Addr} {xs : List V} (I : Inv X pins σ H s) (e : H p = some (.tup xs)) : ∃ its : List Value, Vals xs its ∧ s.heap.IsTuple p its.toArray := by
  obtain ⟨_, its, r, o, h1, h2, n, h3⟩ := (show ObjOk X.prog X.w H s.heap p (.tup xs) from I.hok p _ e)
  exact ⟨its, r, o, h1, h2, n, h3⟩
theorem rowB_its {r : RwB} {its : List Value} (h : Vals (rowB r) its) : ∃ t1 t2 t3, its = [.str r.1 t1, .int r.2.1 t2, .int r.2.2 t3] := by
  unfold rowB at h
  cases h with
  | cons h1 h => cases h with
    | cons h2 h => cases h with
      | cons h3 h =>
        cases h
        obtain ⟨t1, rfl⟩ := h1
        obtain ⟨t2, rfl⟩ := h2
        obtain ⟨t3, rfl⟩ := h3
        exact ⟨t1, t2, t3, rfl⟩
theorem eqAt_rows {X : Cx} {pins : List (Addr × Obj)} {σ : St} {H : Hp} {s : Shared} {A : Around} {p q : Addr} {r r' : RwB} (I : Inv X pins σ H s) (hu : A.units < cLine) (e1 : H p = some (.tup (rowB r))) (e2 : H q = some (.tup (rowB r'))) :
    SeqAt.EqAt A s (.ref p) (.ref q) (decide (r = r')) := by
  by_cases hpq : p = q
  · subst hpq
    have : r = r' := by
      rw [e1] at e2
      injection e2 with e2
      injection e2 with e2
      unfold rowB at e2
      obtain ⟨a, b, c⟩ := r
      obtain ⟨a', b', c'⟩ := r'
      simp only [List.cons.injEq, V.str.injEq, V.int.injEq] at e2
      rw [e2.1, e2.2.1, e2.2.2.1]
    rw [decide_eq_true this]
    exact SeqAt.EqAt.same _
  · obtain ⟨its, v1, o1⟩ := isTup I e1
    obtain ⟨its', v2, o2⟩ := isTup I e2
    obtain ⟨t1, t2, t3, rfl⟩ := rowB_its v1
    obtain ⟨u1, u2, u3, rfl⟩ := rowB_its v2
    refine SeqAt.EqAt.of_refs hpq ?_
    have q := SeqAt.RcAt.tuples (A := A) (s := s) (e := fun j => if j = 0 then r.1 == r'.1 else if j = 1 then r.2.1 == r'.2.1 else r.2.2 == r'.2.2) o1 o2 hu (fun j h1 h2 => by
      match j, h1, h2 with
      | 0, _, _ => exact SeqAt.EqAt.str_str _ _ _ _
      | 1, _, _ => exact SeqAt.EqAt.int_int _ _ _ _
      | 2, _, _ => exact SeqAt.EqAt.int_int _ _ _ _
      | n + 3, h1, _ => exact absurd h1 (by simp))
    have eq : ((List.range (min ([Value.str r.1 t1, .int r.2.1 t2, .int r.2.2 t3] : List Value).toArray.size ([Value.str r'.1 u1, .int r'.2.1 u2, .int r'.2.2 u3] : List Value).toArray.size)).all (fun j => if j = 0 then r.1 == r'.1 else if j = 1 then r.2.1 == r'.2.1 else r.2.2 == r'.2.2) && ([Value.str r.1 t1, .int r.2.1 t2, .int r.2.2 t3] : List Value).toArray.size == ([Value.str r'.1 u1, .int r'.2.1 u2, .int r'.2.2 u3] : List Value).toArray.size) = decide (r = r') := by
      show ((List.range 3).all _ && true) = _
      rw [Bool.and_true]
      show ((r.1 == r'.1) && ((r.2.1 == r'.2.1) && ((r.2.2 == r'.2.2) && true))) = _
      rw [Bool.and_true, Bool.eq_iff_iff]
      simp only [Bool.and_eq_true, beq_iff_eq, decide_eq_true_eq, Prod.ext_iff]
    rw [eq] at q
    exact q
inductive rRemove (x : V) (vs : List V) (H : Hp) (Q : VK) : Prop
  | mk (l q ps rs j r) (h1 : x = .ref l) (h2 : vs = [.ref q]) (h3 : H l = some (.lst (ps.map V.ref))) (h4 : RowB H ps rs) (h5 : H q = some (.tup (rowB r))) (h6 : rs[j]? = some r) (h7 : ∀ m, m < j → rs[m]? ≠ some r) (h8 : Q .non (upd H l (.lst ((ps.eraseIdx j).map V.ref)))) : rRemove x vs H Q
theorem valsRef {ps : List Addr} : ∀ {us : List Value}, Vals (ps.map V.ref) us → us = ps.map Value.ref := by
  induction ps with
  | nil => intro us h; cases h; rfl
  | cons p ps ih => intro us h; cases h with | cons a t => rw [ih t]; cases a; rfl
theorem refVals : ∀ (ps : List Addr), Vals (ps.map V.ref) (ps.map Value.ref)
  | [] => .nil
  | p :: ps => .cons rfl (refVals ps)
theorem mt_remove {X : Cx} (hu : X.A.units + 1 < cLine) : MtM X "list.remove" rRemove := by
  intro pins s σ H x vs v us Q I rx rv h
  obtain ⟨l, q, ps, rs, j, r, rfl, rfl, hH, hP, hq, hj, hno, qq⟩ := h
  cases rx
  obtain ⟨u, rfl, ru⟩ := rv.one
  cases ru
  obtain ⟨z, its, n, rr, hl, e⟩ := I.lstM hH
  obtain rfl := valsRef rr
  have hlen : ps.length = rs.length := Paired.length hP
  have hjl : j < ps.length := by rw [hlen]; exact (List.getElem?_eq_some_iff.mp hj).1
  have at' : ∀ (m : Nat) (hm : m < ps.length), ∃ r', rs[m]? = some r' ∧ H ps[m] = some (.tup (rowB r')) := fun m hm => paired_get hP (List.getElem?_eq_getElem hm)
  let ef : Value → Bool := fun u => @decide (∃ p, u = .ref p ∧ H p = some (.tup (rowB r))) (Classical.propDecidable _)
  have rinj : ∀ {a b : RwB}, (some (HO.tup (rowB a)) : Option HO) = some (HO.tup (rowB b)) → a = b := fun {a b} e => by
    injection e with e
    injection e with e
    obtain ⟨a1, a2, a3⟩ := a
    obtain ⟨b1, b2, b3⟩ := b
    unfold rowB at e
    simp only [List.cons.injEq, V.str.injEq, V.int.injEq] at e
    rw [e.1, e.2.1, e.2.2.1]
  have efd : ∀ {p : Addr} {r' : RwB}, H p = some (.tup (rowB r')) → ef (.ref p) = decide (r' = r) := fun {p r'} ep => by
    show @decide _ (Classical.propDecidable _) = _
    by_cases hr : r' = r
    · rw [decide_eq_true hr]
      subst hr
      exact @decide_eq_true _ (Classical.propDecidable _) ⟨p, rfl, ep⟩
    · rw [decide_eq_false hr]
      refine @decide_eq_false _ (Classical.propDecidable _) fun ⟨p', e1, e2⟩ => hr ?_
      cases e1
      rw [ep] at e2
      exact rinj e2
  have hz : (ps.map Value.ref).toArray.size ≤ sizeLine := by simpa using z
  refine call_meets F.slot_list_remove ⟨_, e, rfl⟩ F.entry_list_remove (F.args_list_remove_2 _ _)
    (SeqAt.list_removeAt l (ps.map Value.ref).toArray n (.ref q) ef j (by simpa using hjl) ?_ (fun m hm hlt => ?_) hz) ⟨e, fun y hy => ?_, ?_⟩
  · obtain ⟨r', e1, e2⟩ := at' j hjl
    simp only [List.getElem_toArray, List.getElem_map]
    rw [efd e2]
    rw [hj] at e1
    exact decide_eq_true (Option.some.inj e1).symm
  · have hm' : m < ps.length := by simpa using hm
    obtain ⟨r', e1, e2⟩ := at' m hm'
    simp only [List.getElem_toArray, List.getElem_map]
    rw [efd e2]
    exact decide_eq_false fun er => hno m hlt (by rw [e1, er])
  · have hy' : y ∈ ps.map Value.ref := by simpa using hy
    obtain ⟨p, hp, rfl⟩ := List.mem_map.mp hy'
    obtain ⟨m, hm, em⟩ := List.mem_iff_getElem.mp hp
    obtain ⟨r', e1, e2⟩ := at' m hm
    rw [em] at e2
    rw [efd e2]
    exact eqAt_rows I hu e2 hq
  · refine ⟨.non, _, I.lset (its' := (ps.eraseIdx j).map Value.ref) (ys := (ps.eraseIdx j).map V.ref) hH e ?_ (refVals _) ?_, rfl, qq⟩
    · simp [eraseIdx_map']
    · rw [List.length_map]
      have := List.length_eraseIdx_le ps j
      rw [List.length_map] at z
      omega
def plainV : V → Bool
  | .byt _ => false
  | .flt _ => false
  | _ => true
theorem eqAt_same {A : Around} {s : Shared} {x : V} {u v : Value} (hp : plainV x = true) (r1 : RelV x u) (r2 : RelV x v) : SeqAt.EqAt A s u v true := by
  cases x with
  | int i => obtain ⟨t, rfl⟩ := r1; obtain ⟨t', rfl⟩ := r2; have := SeqAt.EqAt.int_int (A := A) (s := s) i t i t'; rwa [beq_self_eq_true] at this
  | bl b => cases r1; cases r2; exact SeqAt.EqAt.same _
  | str x => obtain ⟨t, rfl⟩ := r1; obtain ⟨t', rfl⟩ := r2; have := SeqAt.EqAt.str_str (A := A) (s := s) x t x t'; rwa [beq_self_eq_true] at this
  | non => cases r1; cases r2; exact SeqAt.EqAt.same _
  | ref p => cases r1; cases r2; exact SeqAt.EqAt.same _
  | ty p => cases r1; cases r2; exact SeqAt.EqAt.same _
  | byt _ => cases hp
  | flt _ => cases hp
theorem vals_same {A : Around} {s : Shared} {xs : List V} (hp : xs.all plainV = true) {us vs : List Value} (r1 : Vals xs us) (r2 : Vals xs vs) : ∀ (j : Nat) (h1 : j < us.toArray.size) (h2 : j < vs.toArray.size), SeqAt.EqAt A s us.toArray[j] vs.toArray[j] true := fun j h1 h2 => by
  have hx : j < xs.length := by rw [Paired.length r1]; simpa using h1
  obtain ⟨u, e1, q1⟩ := r1.get (List.getElem?_eq_getElem hx)
  obtain ⟨v, e2, q2⟩ := r2.get (List.getElem?_eq_getElem hx)
  have a1 : us.toArray[j] = u := by
    have : us[j]? = some us[j] := List.getElem?_eq_getElem (by simpa using h1)
    rw [e1] at this
    simpa using (Option.some.inj this).symm
  have a2 : vs.toArray[j] = v := by
    have : vs[j]? = some vs[j] := List.getElem?_eq_getElem (by simpa using h2)
    rw [e2] at this
    simpa using (Option.some.inj this).symm
  rw [a1, a2]
  exact eqAt_same (List.all_eq_true.mp hp _ (List.getElem_mem hx)) q1 q2
theorem all_range_true (n : Nat) : ((List.range n).all fun _ => true) = true := List.all_eq_true.mpr fun _ _ => rfl
section
variable {X : Cx}
end
end L2
namespace L2
open PySem PySem.Spec PyProof.Rows
theorem strs_keys : ∀ {vs : List (Key × Value)} {ss : List Str} {us : List Value}, vs.map (·.1) = ss.map Sum.inr → us.length = vs.length → (∀ (j : Nat) v, us[j]? = some v → ∃ k x, vs[j]? = some (k, x) ∧ keyIs k v = true) → StrsAre us ss
  | [], ss, us, e, h, _ => by
    cases ss with
    | nil => rw [List.length_eq_zero_iff.mp h]; exact .nil
    | cons => cases e
  | p :: vs, ss, us, e, h, hv => by
    cases ss with
    | nil => cases e
    | cons s0 ss =>
      cases us with
      | nil => cases h
      | cons u us =>
        rw [List.map_cons, List.map_cons] at e
        injection e with e1 e2
        obtain ⟨k, x, ek, hk⟩ := hv 0 u rfl
        have ek := Option.some.inj ek
        have hk' : k = Sum.inr s0 := by rw [← e1, ek]
        have ih := strs_keys (us := us) e2 (Nat.succ.inj h) fun j v e => hv (j + 1) v e
        rcases keyIs_shape hk with ⟨i, t, q, _⟩ | ⟨y, t, q, rfl⟩
        · rw [hk'] at q; cases q
        · rw [hk'] at q
          injection q with q
          subst q
          exact .cons _ t ih
theorem vals_strs : ∀ {us : List Value} {ss : List Str}, StrsAre us ss → Vals (ss.map V.str) us
  | _, _, .nil => .nil
  | _, _, .cons y t h => .cons ⟨t, rfl⟩ (vals_strs h)
inductive rSortD (xs : List V) (H : Hp) (Q : VK) : Prop
  | mk (d kvs ss) (h1 : xs = [.ref d]) (h2 : Rd H d (.dK kvs)) (h3 : kvs.map (·.1) = ss.map Sum.inr) (h4 : ss.length < 64) (h5 : ∀ l ss', H l = none → ss'.Perm ss → sortedS ss' = true → Q (.ref l) (upd H l (.lst (ss'.map V.str)))) : rSortD xs H Q
theorem kv_keys {kvs : List (Key × V)} {vs : List (Key × Value)} (r : KV kvs vs) : vs.map (·.1) = kvs.map (·.1) := by
  induction r with
  | nil => rfl
  | cons a t ih => rw [List.map_cons, List.map_cons, ih, a.1]
theorem call_sortedD {X : Cx} (hh : X.A.handled = none) : CallR X (.builtin "sorted") rSortD := by
  intro pins s σ H xs us Q I r h
  obtain ⟨d, kvs, ss, rfl, hd, hk, h64, q⟩ := h
  obtain ⟨u, rfl, ru⟩ := Vals.one r
  cases ru
  obtain ⟨z, hds, vs, rk, dd⟩ := dk_rd I.hok hd
  obtain ⟨ep, hat⟩ := dd.dictAt
  have hl : kvs.length = vs.length := Paired.length rk
  have hvk : vs.map (·.1) = ss.map Sum.inr := (kv_keys rk).trans hk
  have hvl : vs.length = ss.length := by have := congrArg List.length hvk; simpa using this
  refine Calls.call_function_entry kind_sorted plain_sorted entry_sorted (args_sorted1 _) ?_
  unfold Builtin.«sorted»
  refine wpAny_bind (m := checkCount "sorted" 1 1 _) (wpAny_pure ?_)
  refine wpAny_bind (PySem.W.kdu_collect (A := X.A.in1) (PySem.W.kdl_dict (knd := mixKind X.prog X.w) (kvs := vs) (ep := ep) hds) hh hat (by rw [← hl]; exact z) fun h' tk acc hkp hacc => ?_)
  have hal : acc.toList.length = vs.length := by rw [Array.length_toList]; exact hacc.1
  have hS : StrsAre acc.toList ss := strs_keys hvk hal fun j v e => hacc.2 j v (by rw [← Array.getElem?_toList]; exact e)
  refine wpAny_bind (wpAny_newList ?_ (by rw [hal, ← hl]; exact z))
  have hoL : (h'.push (seqObj "list" acc.toList.toArray 0)).get? h'.objs.size = some (seqObj "list" acc.toList.toArray 0) := Heap.get?_push_size _ rfl
  refine wpAny_bind (wpAny_holding (wpAny_call_entry slot_list_sort ⟨_, hoL, rfl⟩ entry_list_sort (list_sort_treeK strKind_oneLt hoL hS.keysOf (fun v₁ v₂ rest e => keyKind_strs (by rw [← e]; exact hS)) (by omega) fun st' a1 a2 => ⟨_, rfl, ?_⟩) (args_list_sort _)))
  obtain ⟨ss', b1, b2, b3⟩ := sorted_out_str hS a1 a2
  refine wpAny_pure ⟨_, rfl, ?_⟩
  obtain ⟨e0, he0⟩ := sortedHeap_at (out := (arrOf st').map (·.2)) hoL
  have I1 : Inv X pins σ H { s with heap := h', toks := tk } := I.kept hkp
  have old : ∀ b o, h'.get? b = some o → (sortedHeap (h'.push (seqObj "list" acc.toList.toArray 0)) h'.objs.size acc.toList ((arrOf st').map (·.2))).get? b = some o := fun b o e => by
    have hlt := Heap.lt_size e
    rw [sortedHeap_old (Nat.ne_of_lt hlt) (by rw [size_push']; exact Nat.lt_succ_of_lt hlt)]
    exact Heap.get?_push_of_some _ e
  refine ⟨.ref h'.objs.size, _, I1.laid (t' := tk) old (Nat.le_refl _) (show ObjOk X.prog X.w _ _ _ (.lst (ss'.map V.str)) from ⟨?_, ((arrOf st').map (·.2)).toList, e0, vals_strs b1, by rw [Array.toArray_toList]; exact he0⟩), rfl, q _ ss' (I1.hok.fresh (Nat.le_refl _)) b2 b3⟩
  rw [List.length_map, b2.length_eq, sizeLine_eq]
  omega
def thawE (a : Addr) (kvs : List (Key × V)) (D : Ends) : Ends :=
  { nx := fun σ H => (∃ o, H a = some (.frz o (.dK kvs))) ∧ D.nx σ (upd H a (.dK kvs)), bk := fun σ H => (∃ o, H a = some (.frz o (.dK kvs))) ∧ D.bk σ (upd H a (.dK kvs)), ct := fun σ H => (∃ o, H a = some (.frz o (.dK kvs))) ∧ D.ct σ (upd H a (.dK kvs)),
    rt := fun v H => (∃ o, H a = some (.frz o (.dK kvs))) ∧ D.rt v (upd H a (.dK kvs)) }
theorem Inv.freeze {X : Cx} {pins : List (Addr × Obj)} {σ : St} {H : Hp} {s : Shared} {a : Addr} {kvs : List (Key × V)} (I : Inv X pins σ H s) (e : H a = some (.dK kvs)) : ∃ o, s.heap.get? a = some o ∧ Inv X pins σ (upd H a (.frz o (.dK kvs))) s := by
  have q := (show ObjOk X.prog X.w H s.heap a (.dK kvs) from I.hok a _ e)
  obtain ⟨z, y, vs, r, o, es, ep, ho, c⟩ := id q
  refine ⟨o, ho, ?_⟩
  exact I.write (x := a) (e := a) (h' := s.heap) (t' := s.toks) (by rw [e]; exact True.intro) (.inl rfl) (fun _ _ _ q => q) ⟨o, ho⟩ (show ObjOk X.prog X.w _ s.heap a (.frz o (.dK kvs)) from ⟨ho, ⟨z, y, vs, r, o, es, ep, ho, c⟩⟩)
theorem Inv.thaw {X : Cx} {pins : List (Addr × Obj)} {σ : St} {H : Hp} {s : Shared} {a : Addr} {o : Obj} {kvs : List (Key × V)} (I : Inv X pins σ H s) (e : H a = some (.frz o (.dK kvs))) (n0 : ∀ o u, X.H₀ a ≠ some (.frz o u)) : Inv X pins σ (upd H a (.dK kvs)) s := by
  have q := (show ObjOk X.prog X.w H s.heap a (.frz o (.dK kvs)) from I.hok a _ e)
  obtain ⟨ho, z, y, vs, r, o', es, ep, ho', c⟩ := q
  have nx : ∀ b, H b = none → b ≠ a := fun b n z => by rw [z, e] at n; cases n
  refine ⟨I.ok, I.os, I.bare, ⟨I.base.keep, I.base.slot, fun b ob q n hx => ?_, I.base.there, fun b xs q => ?_, fun b ob u q => ?_, fun b ps q => ?_⟩, I.loc, I.cell, ?_, fun x c hc => ?_, fun p hp => ?_, fun b u q => ?_, I.len⟩
  · have := I.base.free b ob q n hx
    rw [upd_ne (nx b this)]; exact this
  · have := I.base.tups b xs q
    rw [upd_ne (ne_of this e (fun z => nomatch z))]; exact this
  · have := I.base.frzs b ob u q
    rw [upd_ne (fun z => n0 ob u (by rw [← z]; exact q))]; exact this
  · obtain ⟨more, this⟩ := I.base.tbls b ps q
    exact ⟨more, by rw [upd_ne (ne_of this e (fun z => nomatch z))]; exact this⟩
  · rw [upd_ne (nx _ I.free)]; exact I.free
  · rw [upd_ne (nx _ (I.freeC x c hc))]; exact I.freeC x c hc
  · obtain ⟨p1, p2, p3⟩ := I.pin p hp
    exact ⟨p1, by rw [upd_ne (nx _ p2)]; exact p2, p3⟩
  · by_cases hb : b = a
    · subst hb
      rw [upd_same] at q
      cases q
      exact ⟨z, y, vs, r, o', es, ep, ho', c⟩
    · rw [upd_ne hb] at q
      refine (I.hok b u q).stay (fun _ _ _ q => q) (fun c q => ?_) fun c xs q => ?_
      · rw [upd_ne (ne_of q e (fun z => nomatch z))]; exact q
      · rw [upd_ne (ne_of q e (fun z => nomatch z))]; exact q
inductive tFrz (t : TS) (D : Ends) (σ : St) (H : Hp) : Prop
  | mk (a kvs) (h1 : H a = some (.dK kvs)) (h2 : ∀ o, t (thawE a kvs D) σ (upd H a (.frz o (.dK kvs)))) : tFrz t D σ H
theorem ps_frz {X : Cx} {st : Stmt} {t : TS} (h : PS X st t) : PS X st (tFrz t) := by
  intro pins s σ H D I q
  obtain ⟨a, kvs, e, q⟩ := q
  obtain ⟨o, ho, I1⟩ := I.freeze e
  have n0 : ∀ o u, X.H₀ a ≠ some (.frz o u) := fun o u z => by
    have := I.base.frzs a o u z
    rw [e] at this
    cases this
  refine thn (h pins s σ _ (thawE a kvs D) I1 (q o)) fun f s' z => ?_
  cases f with
  | next => obtain ⟨σ', H', I', ⟨o', e'⟩, z⟩ := z; exact ⟨σ', _, I'.thaw e' n0, z⟩
  | brk => obtain ⟨σ', H', I', ⟨o', e'⟩, z⟩ := z; exact ⟨σ', _, I'.thaw e' n0, z⟩
  | cont => obtain ⟨σ', H', I', ⟨o', e'⟩, z⟩ := z; exact ⟨σ', _, I'.thaw e' n0, z⟩
  | ret u => obtain ⟨v, σ', H', I', rv, ⟨o', e'⟩, z⟩ := z; exact ⟨v, σ', _, I'.thaw e' n0, rv, z⟩
def Itd (a : Addr) (o : Obj) (kvs : List (Key × V)) : It :=
  ⟨fun i H => H a = some (.frz o (.dK kvs)) ∧ i < kvs.length, fun i H x H' => H' = H ∧ ∃ p, kvs[i]? = some p ∧ x = kV p.1, fun i H => H a = some (.frz o (.dK kvs)) ∧ kvs.length = i⟩
theorem dictAt_of {P : Program} {w : World} {H : Hp} {h : Heap} {a : Addr} {o : Obj} {kvs : List (Key × V)} {es : Array DictEntry} {ep : Nat} (hd : o.data = .dict es ep) (q : ObjOk P w H h a (.frz o (.dK kvs))) : (a == sysModules) = false ∧ ∃ vs, KV kvs vs ∧ h.DictAt (mixKind P w) a vs ep := by
  obtain ⟨ho, z, y, vs, r, o', es', ep', ho', c1, c2, c3⟩ := q
  rw [ho] at ho'
  cases ho'
  rw [hd] at c2
  cases c2
  exact ⟨y, vs, r, o, es, ho, c1, hd, c3⟩
theorem kV_of {k : Key} {v : Value} (h : keyIs k v = true) : RelV (kV k) v := by
  rcases keyIs_shape h with ⟨i, t, rfl, rfl⟩ | ⟨x, t, rfl, rfl⟩
  · exact ⟨t, rfl⟩
  · exact ⟨t, rfl⟩
theorem turn_dict {P : Program} {w : World} {K : PySem.W.Frag} {tg : Expr} {a : Addr} {o : Obj} {kvs : List (Key × V)} {es : Array DictEntry} {ep : Nat} (hd : o.data = .dict es ep) (it : Addr) (hai : a ≠ it) : Turn P w K tg (Itd a o kvs) [it] it (fun i h => h.IsKeyIter it a i kvs.length ep) where
  mem := by simp
  obj := fun i h st b hb => by
    have e : b = it := by simpa using hb
    subst e
    obtain ⟨o, e, c, d⟩ := st
    exact ⟨o, e, fun v z => by rw [d] at z; cases z⟩
  keep := fun i h h' st k => st.at fun o e => k it (by simp) o e
  item := by
    intro X hP hw hK hc i pins s σ H E I hf st hg
    subst hP hw hK
    obtain ⟨he, hi⟩ := hg
    obtain ⟨y, vs, rk, dat⟩ := dictAt_of hd (show ObjOk X.prog X.w H s.heap a _ from I.hok a _ he)
    have hl : kvs.length = vs.length := Paired.length rk
    obtain ⟨f0, f1, f2, f3, f4, f5⟩ := hf it (by simp)
    have ex : kvs[i]? = some kvs[i] := List.getElem?_eq_getElem hi
    obtain ⟨q, eq, hq1, hq2⟩ := paired_get rk ex
    rw [hl] at st
    refine wpAny_pyNext_dict_item (k := q.1) (v := q.2) st dat eq fun key h' hkey hit' hs' => ?_
    have I1 : Inv X pins σ H { s with heap := h' } := I.turned (t' := s.toks) (fun b o hb e => (hs'.2 b hb).trans e) f0 f1 f3 f4 f5
    obtain ⟨o, e, c, d⟩ := id hit'
    rw [← hl] at hit'
    exact ⟨key, rfl, go_of (s := { s with heap := h' }) e c d (by decide) ⟨kV q.1, H, I1, kV_of hkey, ⟨rfl, _, ex, by rw [hq1]⟩, hit', fun b hb => (hf b hb).1⟩⟩
  done := by
    intro X hP hw hK hc i pins s σ H E I hf st hg
    subst hP hw hK
    obtain ⟨he, hi⟩ := hg
    obtain ⟨y, vs, rk, dat⟩ := dictAt_of hd (show ObjOk X.prog X.w H s.heap a _ from I.hok a _ he)
    have hl : kvs.length = vs.length := Paired.length rk
    obtain ⟨f0, f1, f2, f3, f4, f5⟩ := hf it (by simp)
    rw [hl] at st
    exact wpAny_pyNext_dict_end (I.ok.hd hc) st dat (by simp; omega) fun h' eb => ⟨rfl, I.turned (t' := s.toks) (fun b o hb e => eb b o hb e) f0 f1 f3 f4 f5⟩
  self := fun _ _ _ _ _ st h => wpAny_pyIter_keyiter st h
inductive diR (x : V) (H1 : Hp) (R : It → Hp → Prop) : Prop
  | mk (a o kvs) (h1 : x = .ref a) (h2 : H1 a = some (.frz o (.dK kvs))) (h3 : R (Itd a o kvs) H1) : diR x H1 R
def iDict (tl : TE) : TI := fun σ H R => tl σ H fun x H1 => diR x H1 R
theorem pi_dict {X : Cx} {tg l : Expr} {tl : TE} (hl : PE X l tl) : PI X tg l (iDict tl) := by
  intro pins s σ H R I h
  refine thn (hl pins s σ H _ I h) fun v s1 ⟨x, H1, I1, r1, q1⟩ => ?_
  obtain ⟨a, o, kvs, e, hq, q⟩ := q1
  subst e
  cases r1
  have ok := (show ObjOk X.prog X.w H1 s1.heap a (.frz o (.dK kvs)) from I1.hok a _ hq)
  obtain ⟨ho, _, _, _, _, o', es, ep, ho', _, hd, _⟩ := id ok
  rw [ho] at ho'
  cases ho'
  obtain ⟨y, vs, rk, dat⟩ := dictAt_of hd ok
  have hl : kvs.length = vs.length := Paired.length rk
  refine wpAny_pyIter_dict y dat ?_
  have hlt : a < s1.heap.objs.size := Heap.lt_size ho
  refine ⟨s1.heap.objs.size, [s1.heap.objs.size], _, _, H1, rfl, I1.kept (t' := s1.toks) fun b o e => Heap.get?_push_of_some _ e, turn_dict hd _ (Nat.ne_of_lt hlt), ?_, fun b hb => ?_, q⟩
  · show Heap.IsKeyIter _ _ _ 0 kvs.length ep
    rw [hl]
    exact ⟨_, Heap.get?_push_size _ rfl, rfl, rfl⟩
  · have e : b = s1.heap.objs.size := by simpa using hb
    subst e
    exact I1.fpOk (Nat.le_refl _) (I1.hok.fresh (Nat.le_refl _))
end L2
namespace L2
open PySem PySem.Spec PyProof.Rows
section
variable {prog : Program} {w : World} {A : Around} {R : Result → Shared → Prop} {it : Addr} {fp wr : List Addr} {G : Array GenState → Array GenState → Prop} {P : Nat → Value → Prop} {St : Nat → Shared → Prop}
end
section
variable {prog : Program} {w : World} {A : Around} {E : Value → Shared → Prop} {s : Shared}
end
end L2
namespace L2
open PySem PySem.Spec PyProof.Rows
end L2
namespace PySem
open PySem PySem.Spec
section
variable {prog : Program} {w : World} {A : Around} {E : Value → Shared → Prop} {h : Heap} {g : Array GenState} {d : Drawn} {t : Nat} {os : OsState} {a : Addr} {o : Obj}
end
end PySem
namespace L2
open PySem PySem.Spec PyProof.Rows
section
variable {prog : Program} {w : World} {A : Around} {R : Result → Shared → Prop} {it : Addr} {fp wr : List Addr} {G : Array GenState → Array GenState → Prop} {P : Nat → Value → Prop} {St : Nat → Shared → Prop}
end
section
variable {prog : Program} {w : World} {A : Around} {E : Value → Shared → Prop} {s : Shared}
end
end L2
namespace L2
open PySem PySem.Spec PyProof.Rows
section
variable {P : Program} {w : World} {K : PySem.W.Frag} {mg : Str → Option Value} {base : Heap}
end
end L2
namespace L2
open PySem PySem.Spec PyProof.Rows
end L2
namespace L2
open PySem PySem.Spec PyProof.Rows
theorem ne_s {x y : Str} (h : decide (x = y) = false) : (x == y) = false := by
  have : ¬ x = y := of_decide_eq_false h
  simpa [beq_eq_false_iff_ne] using this
structure MC (P : Program) (w : World) (K : PySem.W.Frag) (mg : Str → Option Value) (base : Heap) (C : Addr) (m : Str) (k : Nat) (ps : List Str) (ds : List Value) (dvs : List V) (sp : Sp) (f : Addr) (fd : FuncData) : Prop where
  cl : Cls K C
  mt : Meth K C m f
  ok : FnOk P w K mg base CX0 k f fd ps sp
  bd : Binds K fd ps ds
  dv : Vals dvs ds
end L2
namespace L2
open PySem PySem.Spec PyProof.Rows
theorem paired_snoc {α β : Type} {F : α → β → Prop} : ∀ {xs : List α} {ys : List β} {x : α} {y : β}, Paired F xs ys → F x y → Paired F (xs ++ [x]) (ys ++ [y])
  | _, _, _, _, .nil, h => .cons h .nil
  | _, _, _, _, .cons a t, h => .cons a (paired_snoc t h)
section
variable {D : Ends} {σ : St} {H : Hp} {Q : VK}
theorem rd_next (h : D.nx σ H) : tNext D σ H := h
theorem rd_ret {te : TE} (h : te σ H D.rt) : tRet te D σ H := h
theorem rd_expr {te : TE} (h : te σ H fun _ H1 => D.nx σ H1) : tDrop te D σ H := h
theorem rd_seq {t u : TS} (h : t { D with nx := u D } σ H) : tSeq t u D σ H := h
theorem rd_cb {r : List V → Hp → VK → Prop} {t : TA} (h : t σ H fun vs H1 => r vs H1 Q) : tCB r t σ H Q := h
theorem rd_cons {ta : TE} {tr : TA} {R : List V → Hp → Prop} (h : ta σ H fun x H1 => tr σ H1 fun xs H2 => R (x :: xs) H2) : tCons ta tr σ H R := h
theorem rd_asg {te : TE} {g : TG} (h : te σ H fun x H1 => g x σ H1 D.nx) : tAsg te g D σ H := h
end
end L2
namespace L2
open PySem PySem.Spec PyProof.Rows
abbrev OB := Str × RwB
abbrev Ix := List (Str × List RwB)
abbrev kk (k : Str) (n : Int) : List Key := [Sum.inr k, Sum.inl n]
def one (x : OB) (k : Str) (n : Int) : Nat := if x.2.1 = k then (Kn.way x.2.2.1 x.2.2.2).count n else 0
def wt (L : List OB) (k : Str) (n : Int) : Nat := (L.map fun x => one x k n).sum
def knot (f l : Int) : Int := (Kn.way f l).getLast?.getD 0
def atK (x : OB) (k : Str) (n : Int) : Prop := x.2.1 = k ∧ knot x.2.2.1 x.2.2.2 = n
instance (x : OB) (k : Str) (n : Int) : Decidable (atK x k n) := inferInstanceAs (Decidable (_ ∧ _))
def rowOf (x : OB) : RwB := (x.1, x.2.2)
def stL (L : List OB) (k : Str) (n : Int) : List RwB := (L.filter fun x => decide (atK x k n)).map rowOf
def wtV (c : Nat) : Option V := if c = 0 then none else some (V.int (c : Int))
theorem wtV_pos {c : Nat} (h : 0 < c) : wtV c = some (V.int (c : Int)) := if_neg (by omega)
theorem wt_cons (x : OB) (L : List OB) (k : Str) (n : Int) : wt (x :: L) k n = one x k n + wt L k n := rfl
theorem wt_perm {L L' : List OB} (h : L.Perm L') (k : Str) (n : Int) : wt L k n = wt L' k n := (h.map _).sum_nat
theorem stL_perm {L L' : List OB} (h : L.Perm L') (k : Str) (n : Int) : (stL L k n).Perm (stL L' k n) := (h.filter _).map _
theorem stL_pos {x : OB} {L : List OB} {k : Str} {n : Int} (h : atK x k n) : stL (x :: L) k n = rowOf x :: stL L k n := by
  unfold stL
  rw [List.filter_cons_of_pos (by simpa using h), List.map_cons]
theorem stL_neg {x : OB} {L : List OB} {k : Str} {n : Int} (h : ¬ atK x k n) : stL (x :: L) k n = stL L k n := by
  unfold stL
  rw [List.filter_cons_of_neg (by simpa using h)]
theorem stL_le (L : List OB) (k : Str) (n : Int) : (stL L k n).length ≤ L.length := by
  unfold stL
  rw [List.length_map]
  exact List.length_filter_le _ _
theorem mem_stL {L : List OB} {k : Str} {n : Int} {r : RwB} : r ∈ stL L k n ↔ ∃ x ∈ L, atK x k n ∧ rowOf x = r := by
  unfold stL
  simp only [List.mem_map, List.mem_filter, decide_eq_true_eq]
  exact ⟨fun ⟨x, ⟨h1, h2⟩, h3⟩ => ⟨x, h1, h2, h3⟩, fun ⟨x, h1, h2, h3⟩ => ⟨x, ⟨h1, h2⟩, h3⟩⟩
theorem wt_pos {L : List OB} {k : Str} {n : Int} : 0 < wt L k n ↔ ∃ x ∈ L, x.2.1 = k ∧ n ∈ Kn.way x.2.2.1 x.2.2.2 := by
  induction L with
  | nil => simp [wt]
  | cons x L ih =>
    rw [wt_cons]
    simp only [List.mem_cons, exists_eq_or_imp]
    have hx : 0 < one x k n ↔ x.2.1 = k ∧ n ∈ Kn.way x.2.2.1 x.2.2.2 := by
      unfold one
      by_cases e : x.2.1 = k
      · rw [if_pos e, List.count_pos_iff]; exact ⟨fun h => ⟨e, h⟩, fun h => h.2⟩
      · rw [if_neg e]; exact ⟨fun h => absurd h (Nat.lt_irrefl _), fun h => absurd h.1 e⟩
    rw [← hx, ← ih]
    omega
theorem wayL_ne (j : Nat) (k f l : Int) : Kn.wayL j k f l ≠ [] := by
  cases j with
  | zero => simp [Kn.wayL]
  | succ j => unfold Kn.wayL; split <;> (try split) <;> simp
theorem way_ne (f l : Int) : Kn.way f l ≠ [] := wayL_ne _ _ _ _
theorem wayL_len : ∀ (j : Nat) (k f l : Int), (Kn.wayL j k f l).length ≤ j + 1
  | 0, _, _, _ => by simp [Kn.wayL]
  | j + 1, k, f, l => by
    unfold Kn.wayL
    split
    · simp
    · split <;> (rw [List.length_cons]; have := wayL_len j; have := this (k - ((2 ^ j : Nat) : Int)) f l; have := wayL_len j (k + ((2 ^ j : Nat) : Int)) f l; omega)
theorem way_len (f l : Int) : (Kn.way f l).length ≤ 9 := wayL_len 8 256 f l
theorem way_last (f l : Int) : (Kn.way f l)[(Kn.way f l).length - 1]? = some (knot f l) := by
  unfold knot
  rw [← List.getLast?_eq_getElem?, List.getLast?_eq_some_getLast (way_ne f l)]
  rfl
theorem knot_mem (f l : Int) : knot f l ∈ Kn.way f l := List.mem_of_getElem? (way_last f l)
def below : Nat → Int → Int → Int → List Int
  | 0, _, _, _ => []
  | j + 1, k, f, l => (if f + 1 < k then [k - ((2 ^ j : Nat) : Int)] else []) ++ (if k < l + 1 then [k + ((2 ^ j : Nat) : Int)] else [])
def lookL (T : Int → Bool) (f l : Int) : Nat → Int → List Int
  | 0, k => if T k then [k] else []
  | j + 1, k => if T k then k :: ((if k < l + 1 then lookL T f l j (k + ((2 ^ j : Nat) : Int)) else []) ++ (if f + 1 < k then lookL T f l j (k - ((2 ^ j : Nat) : Int)) else [])) else []
theorem way_looked {T : Int → Bool} {f l f' l' : Int} (h1 : f ≤ l') (h2 : f' ≤ l) : ∀ (j : Nat) (k : Int), Kn.Under j k f' l' → (∀ n ∈ Kn.wayL j k f' l', T n = true) → ∀ n ∈ Kn.wayL j k f' l', n ∈ lookL T f l j k
  | 0, k, _, hT, n, hn => by
    have : n = k := by simpa [Kn.wayL] using hn
    subst this
    rw [lookL, if_pos (hT n hn)]
    exact List.mem_singleton.mpr rfl
  | j + 1, k, hU, hT, n, hn => by
    have ht : T k = true := hT k (by unfold Kn.wayL; split <;> (try split) <;> simp)
    rw [lookL, if_pos ht]
    unfold Kn.wayL at hn hT
    by_cases c1 : f' + 1 ≤ k ∧ k ≤ l' + 1
    · rw [if_pos c1] at hn
      rw [List.mem_singleton.mp hn]
      exact List.mem_cons_self
    · rw [if_neg c1] at hn hT
      by_cases c2 : l' + 1 < k
      · rw [if_pos c2] at hn hT
        rcases List.mem_cons.mp hn with rfl | hn
        · exact List.mem_cons_self
        · refine List.mem_cons_of_mem _ (List.mem_append_right _ ?_)
          rw [if_pos (show f + 1 < k by omega)]
          exact way_looked h1 h2 j _ (hU.left c2) (fun m hm => hT m (List.mem_cons_of_mem _ hm)) n hn
      · rw [if_neg c2] at hn hT
        have c3 : k < f' + 1 := by have := hU.2.2; omega
        rcases List.mem_cons.mp hn with rfl | hn
        · exact List.mem_cons_self
        · refine List.mem_cons_of_mem _ (List.mem_append_left _ ?_)
          rw [if_pos (show k < l + 1 by omega)]
          exact way_looked h1 h2 j _ (hU.right c3) (fun m hm => hT m (List.mem_cons_of_mem _ hm)) n hn
theorem lookL_len (T : Int → Bool) (f l : Int) : ∀ (j : Nat) (k : Int), (lookL T f l j k).length + 1 ≤ 2 ^ (j + 1)
  | 0, k => by rw [lookL]; split <;> simp
  | j + 1, k => by
    have a := lookL_len T f l j (k + ((2 ^ j : Nat) : Int))
    have b := lookL_len T f l j (k - ((2 ^ j : Nat) : Int))
    have p : 1 ≤ 2 ^ (j + 1) := Nat.one_le_two_pow
    rw [lookL, Nat.pow_succ]
    split
    · rw [List.length_cons, List.length_append]
      split <;> split <;> (try simp only [List.length_nil]) <;> omega
    · simp only [List.length_nil]; omega
structure IA where
  p : Addr
  s : Addr
  w : Addr
def iflds (a : IA) : List (Str × V) := [("placed", V.ref a.p), ("standing", V.ref a.s), ("weights", V.ref a.w)]
structure WAt (H : Hp) (w : Addr) (g : Str → Int → Nat) (m : Nat) : Prop where
  ex : ∃ ws, H w = some (.dT ws) ∧ ws.length ≤ m ∧ ∀ k n, valV ws (kk k n) = wtV (g k n)
inductive RowsAt (H : Hp) (M : Addr → Prop) (v : Option V) (rs : List RwB) : Prop
  | no (h1 : v = none) (h2 : rs = []) : RowsAt H M v rs
  | yes (ra ps qs) (h1 : v = some (.ref ra)) (h2 : M ra) (h3 : H ra = some (.lst (ps.map V.ref))) (h4 : RowB H ps qs) (h5 : qs.Perm rs) (h6 : rs ≠ []) : RowsAt H M v rs
structure StA (H : Hp) (s : Addr) (M : Addr → Prop) (g : Str → Int → List RwB) (m : Nat) : Prop where
  ex : ∃ ss, H s = some (.dT ss) ∧ ss.length ≤ m ∧ (∀ k n, RowsAt H M (valV ss (kk k n)) (g k n)) ∧ ∀ k n k' n' ra, valV ss (kk k n) = some (.ref ra) → valV ss (kk k' n') = some (.ref ra) → k = k' ∧ n = n'
structure WS (H : Hp) (a : IA) (M : Addr → Prop) (L : List OB) (N : Nat) : Prop where
  hw : WAt H a.w (wt L) (9 * N)
  hs : StA H a.s M (stL L) N
  sw : a.s ≠ a.w
  ms : M a.s
  mw : M a.w
  mt : ∀ b, M b → (∃ x, H b = some (.dT x)) ∨ ∃ x, H b = some (.lst x)
  ln : L.length ≤ N
  nn : N ≤ 100000
structure Fr2 (H H' : Hp) (M M' : Addr → Prop) : Prop where
  keep : ∀ b o, H b = some o → ¬ M b → H' b = some o
  new : ∀ b, M' b → M b ∨ H b = none
theorem Fr2.refl {H : Hp} {M : Addr → Prop} : Fr2 H H M M := ⟨fun _ _ e _ => e, fun _ h => .inl h⟩
theorem Fr2.trans {H H1 H2 : Hp} {M M1 M2 : Addr → Prop} (f : Fr2 H H1 M M1) (g : Fr2 H1 H2 M1 M2) : Fr2 H H2 M M2 := by
  refine ⟨fun b o e h => g.keep b o (f.keep b o e h) fun z => (f.new b z).elim h fun z => (by rw [e] at z; cases z), fun b h => ?_⟩
  rcases g.new b h with z | z
  · exact f.new b z
  · by_cases hM : M b
    · exact .inl hM
    · cases e : H b with
      | none => exact .inr rfl
      | some o => rw [f.keep b o e hM] at z; cases z
theorem Fr2.grow {H H' : Hp} {M : Addr → Prop} (g : ∀ b o, H b = some o → H' b = some o) : Fr2 H H' M M := ⟨fun b o e _ => g b o e, fun _ h => .inl h⟩
theorem WS.tup {H : Hp} {a : IA} {M : Addr → Prop} {L : List OB} {N : Nat} (h : WS H a M L N) {b : Addr} {xs : List V} (e : H b = some (.tup xs)) : ¬ M b := fun z => by
  rcases h.mt b z with ⟨x, q⟩ | ⟨x, q⟩ <;> (rw [e] at q; cases q)
theorem WS.ins {H : Hp} {a : IA} {M : Addr → Prop} {L : List OB} {N : Nat} (h : WS H a M L N) {b C dx : Addr} {xs : List (Str × V)} (e : H b = some (.ins C dx xs)) : ¬ M b := fun z => by
  rcases h.mt b z with ⟨x, q⟩ | ⟨x, q⟩ <;> (rw [e] at q; cases q)
theorem WS.dk {H : Hp} {a : IA} {M : Addr → Prop} {L : List OB} {N : Nat} (h : WS H a M L N) {b : Addr} {xs : List (Key × V)} (e : H b = some (.dK xs)) : ¬ M b := fun z => by
  rcases h.mt b z with ⟨x, q⟩ | ⟨x, q⟩ <;> (rw [e] at q; cases q)
theorem RowsAt.mono {H H' : Hp} {M M' : Addr → Prop} {v : Option V} {rs : List RwB} (h : RowsAt H M v rs) (hM : ∀ b, M b → M' b) (hl : ∀ b x, v = some (.ref b) → M b → H b = some (.lst x) → H' b = some (.lst x)) (ht : ∀ b x, H b = some (.tup x) → H' b = some (.tup x)) : RowsAt H' M' v rs := by
  cases h with
  | no h1 h2 => exact .no h1 h2
  | yes ra ps qs h1 h2 h3 h4 h5 h6 => exact .yes ra ps qs h1 (hM _ h2) (hl _ _ h1 h2 h3) (Paired.mapP h4 fun _ _ e => ht _ _ e) h5 h6
theorem RowsAt.perm {H : Hp} {M : Addr → Prop} {v : Option V} {rs rs' : List RwB} (h : RowsAt H M v rs) (hp : rs.Perm rs') : RowsAt H M v rs' := by
  cases h with
  | no h1 h2 => exact .no h1 (by rw [h2] at hp; exact hp.nil_eq.symm)
  | yes ra ps qs h1 h2 h3 h4 h5 h6 => exact .yes ra ps qs h1 h2 h3 h4 (h5.trans hp) fun z => h6 (by rw [z] at hp; exact hp.eq_nil)
theorem WS.perm {H : Hp} {a : IA} {M : Addr → Prop} {L L' : List OB} {N : Nat} (h : WS H a M L N) (hp : L.Perm L') : WS H a M L' N := by
  obtain ⟨ws, e1, e2, e3⟩ := h.hw.ex
  obtain ⟨ss, s1, s2, s3, s4⟩ := h.hs.ex
  exact ⟨⟨ws, e1, e2, fun k n => by rw [← wt_perm hp]; exact e3 k n⟩, ⟨ss, s1, s2, fun k n => (s3 k n).perm (stL_perm hp k n), s4⟩, h.sw, h.ms, h.mw, h.mt, by rw [← hp.length_eq]; exact h.ln, h.nn⟩
theorem WS.more {H : Hp} {a : IA} {M : Addr → Prop} {L : List OB} {N N' : Nat} (h : WS H a M L N) (hn : N ≤ N') (h1 : N' ≤ 100000) : WS H a M L N' := by
  obtain ⟨ws, e1, e2, e3⟩ := h.hw.ex
  obtain ⟨ss, s1, s2, s3, s4⟩ := h.hs.ex
  exact ⟨⟨ws, e1, by omega, e3⟩, ⟨ss, s1, by omega, s3, s4⟩, h.sw, h.ms, h.mw, h.mt, by have := h.ln; omega, h1⟩
theorem WS.keep {H H' : Hp} {a : IA} {M : Addr → Prop} {L : List OB} {N : Nat} (h : WS H a M L N) (g : ∀ b o, H b = some o → (M b ∨ ∃ x, o = .tup x) → H' b = some o) : WS H' a M L N := by
  obtain ⟨ws, e1, e2, e3⟩ := h.hw.ex
  obtain ⟨ss, s1, s2, s3, s4⟩ := h.hs.ex
  refine ⟨⟨ws, g _ _ e1 (.inl h.mw), e2, e3⟩, ⟨ss, g _ _ s1 (.inl h.ms), s2, fun k n => (s3 k n).mono (fun _ z => z) (fun b x _ hm e => g _ _ e (.inl hm)) fun b x e => g _ _ e (.inr ⟨x, rfl⟩), s4⟩, h.sw, h.ms, h.mw, fun b hb => ?_, h.ln, h.nn⟩
  rcases h.mt b hb with ⟨x, e⟩ | ⟨x, e⟩
  · exact .inl ⟨x, g _ _ e (.inl hb)⟩
  · exact .inr ⟨x, g _ _ e (.inl hb)⟩
theorem WS.grow {H H' : Hp} {a : IA} {M : Addr → Prop} {L : List OB} {N : Nat} (h : WS H a M L N) (g : ∀ b o, H b = some o → H' b = some o) : WS H' a M L N := h.keep fun b o e _ => g b o e
theorem StA.add {H H' : Hp} {s : Addr} {M M' : Addr → Prop} {g g' : Str → Int → List RwB} {m : Nat} {ss : List (List Key × V)} {k : Str} {n : Int} {ra t : Addr} {ps : List Addr} {qs : List RwB} {r : RwB}
    (hs : ∀ k n, RowsAt H M (valV ss (kk k n)) (g k n)) (hi : ∀ k n k' n' ra, valV ss (kk k n) = some (.ref ra) → valV ss (kk k' n') = some (.ref ra) → k = k' ∧ n = n') (hl : ss.length ≤ m) (ev : valV ss (kk k n) = some (.ref ra))
    (hMra : M' ra) (hMM : ∀ b, M b → M' b) (es : H' s = some (.dT ss)) (er : H' ra = some (.lst ((ps ++ [t]).map V.ref))) (hq : RowB H' (ps ++ [t]) (qs ++ [r])) (hp : qs.Perm (g k n))
    (hl' : ∀ b x, b ≠ ra → M b → H b = some (.lst x) → H' b = some (.lst x)) (ht : ∀ b x, H b = some (.tup x) → H' b = some (.tup x)) (g1 : g' k n = r :: g k n) (g2 : ∀ k' n', ¬ (k' = k ∧ n' = n) → g' k' n' = g k' n') : StA H' s M' g' m := by
  refine ⟨ss, es, hl, fun k' n' => ?_, hi⟩
  by_cases e : k' = k ∧ n' = n
  · obtain ⟨rfl, rfl⟩ := e
    exact .yes ra (ps ++ [t]) (qs ++ [r]) ev hMra er hq (by rw [g1]; exact (List.perm_append_comm).trans ((hp.cons r))) (by rw [g1]; simp)
  · rw [g2 k' n' e]
    exact (hs k' n').mono hMM (fun b x ev' hm eb => hl' b x (fun z => e (by
      subst z
      exact hi _ _ _ _ _ ev' ev)) hm eb) ht
theorem kk_inj {k k' : Str} {n n' : Int} (e : kk k n = kk k' n') : k = k' ∧ n = n' := by
  injection e with e1 e2
  injection e2 with e2 _
  injection e1 with e1
  injection e2 with e2
  exact ⟨e1, e2⟩
theorem valV_drop {κ : Type} [DecidableEq κ] (k j : κ) : ∀ kvs : List (κ × V), valV (dropK kvs k) j = if j = k then none else valV kvs j
  | [] => by rw [show dropK ([] : List (κ × V)) k = [] from rfl, valV_nil]; split <;> rfl
  | p :: r => by
    by_cases e : p.1 = k
    · rw [dropK_pos e, valV_drop k j r]
      by_cases h : j = k
      · rw [if_pos h, if_pos h]
      · rw [if_neg h, if_neg h, valV_neg (fun z => h (z.symm.trans e))]
    · rw [dropK_neg e]
      by_cases h : p.1 = j
      · rw [valV_pos h, if_neg (fun z => e (h.trans z)), valV_pos h]
      · rw [valV_neg h, valV_neg h, valV_drop k j r]
end L2
namespace L2
open PySem PySem.Spec PyProof.Rows
theorem rd_if {c : TT} {t u : TS} {D : Ends} {σ : St} {H : Hp} (h : c σ H fun b H1 => if b = true then t D σ H1 else u D σ H1) : tIfS c t u D σ H := h
theorem rd_while {c : TT} {tb : TS} {D : Ends} {σ : St} {H : Hp} (W : Nat → St → Hp → Prop) {m : Nat} (h0 : W m σ H) (h : ∀ m σ H, W m σ H → c σ H fun b H1 => if b = true then ∃ N : St → Hp → Prop, (∀ σ' H', N σ' H' → ∃ m', m' < m ∧ W m' σ' H') ∧ tb { D with nx := N, ct := N, bk := D.nx } σ H1 else D.nx σ H1) : tWhile c tb D σ H :=
  ⟨W, ⟨m, h0⟩, h⟩
theorem rd_chainI {f g : Int → Int → Bool} {ta tb tc : TE} {σ : St} {H : Hp} {Q : Bool → Hp → Prop} {i j k : Int} (ha : ∀ R : VK, R (.int i) H → ta σ H R) (hb : ∀ R : VK, R (.int j) H → tb σ H R) (hc : ∀ R : VK, R (.int k) H → tc σ H R) (h : Q (f i j && g j k) H) :
    tTest (tChain (rI0 fun i j => V.bl (f i j)) (rI0 fun i j => V.bl (g i j)) ta tb tc) σ H Q := by
  refine ha _ (hb _ ⟨_, _, rfl, rfl, _, rfl, ?_⟩)
  cases hf : f i j with
  | true =>
    rw [hf, Bool.true_and] at h
    exact iteT (hc _ ⟨_, _, rfl, rfl, _, rfl, h⟩)
  | false =>
    rw [hf, Bool.false_and] at h
    exact iteF ⟨_, rfl, h⟩
theorem atI_snoc {α : Type} (xs : List α) (x : α) : atI (xs ++ [x]) (-1) = some x := by
  unfold atI ixN
  rw [if_neg (by decide), if_pos (by rw [List.length_append]; simp only [List.length_singleton]; omega)]
  show (xs ++ [x])[_]? = _
  have : ((-1 : Int) + ((xs ++ [x]).length : Nat)).toNat = xs.length := by rw [List.length_append]; simp only [List.length_singleton]; omega
  rw [this, List.getElem?_append_right (Nat.le_refl _), Nat.sub_self]
  rfl
end L2
namespace L2
open PySem PySem.Spec PyProof.Rows
section
variable {P : Program} {w : World} {K : PySem.W.Frag} {mg : Str → Option Value} {base : Heap}
theorem Fun.okX {x qual : Str} {st : Stmt} {f : Addr} {fd : FuncData} {N ps : List Str} {k : Nat} {sp : Sp} (F : Fun K x qual st f fd) (S : FnScope N ps (defScope st)) (len : ∀ vs H Q E, sp vs H Q E → vs.length = ps.length)
    (hbody : ∀ (cdv : Value) (A : Around) (outer : List Env) (s : Shared) (H : Hp) (vs : List V) (Q : VK) (E : XK), Room k (A.deeper (envOfC qual (defScope st) s.heap.objs.size f cdv)) → sp vs H Q E →
      ∃ t, PSs (cxOf (CXR P w) P w K mg base N qual (defScope st) f cdv A outer s H E) (defBody st) t ∧ t { nx := fun _ H' => Q .non H', rt := Q } (start N vs) H) : FnOk P w K mg base (CXR P w) (k + 1) f fd ps sp := by
  obtain ⟨oc, od, kV, doc, pm, an, cdv, ct, osl, rfl, lk, hcd⟩ := F.ex
  exact fn_of lk hcd S len fun A outer s H vs Q E hr hsp => hbody cdv A outer s H vs Q E hr hsp
end
def Refuses (C : Addr) (fs : List (Str × V)) (H : Hp) (E : XK) : Prop := ∀ (a : Addr) (H' : Hp), (∀ b o, H b = some o → H' b = some o) → H a = none → XAt H' a C fs → E (.ref C) (some a) H'
end L2
namespace L2
open PySem PySem.Spec PyProof.Rows
inductive spXI (K : PySem.W.Frag) (f : Str) (vs : List V) (H : Hp) (Q : VK) (E : XK) : Prop
  | mk (e C U : Addr) (v : V) (h1 : vs = [.ref e, v]) (h2 : H e = some (XO C e none)) (h3 : XCls K C U) (h4 : PySem.W.findIn K (.ref C) f = some none) (h5 : ∀ d, H d = none → Q .non (upd (upd H d (.xd [(f, v)])) e (XO C e (some d)))) : spXI K f vs H Q E
structure Rf1 (P : Program) (w : World) (K : PySem.W.Frag) (mg : Str → Option Value) (base : Heap) (x : Str) (C U : Addr) (f : Str) (fI : Addr) (fd : FuncData) : Prop where
  ok : FnOk P w K mg base CX0 1 fI fd ["self", f] (spXI K f)
  nm : mg x = some (.ref C)
  init : PySem.W.findIn K (.ref C) "__init__" = some (some (.ref fI))
  fn : PySem.W.isFn K (.ref fI) = true
  bd : Binds K fd ["self", f] []
  cl : XCls K C U
  nf : PySem.W.findIn K (.ref C) f = some none
structure Rf0 (K : PySem.W.Frag) (mg : Str → Option Value) (x : Str) (C U : Addr) : Prop where
  nm : mg x = some (.ref C)
  init : PySem.W.findIn K (.ref C) "__init__" = some (some (.builtin "ValueError.__init__"))
  cl : XCls K C U
theorem xi_few {K : PySem.W.Frag} {f : Str} : ∀ vs H Q E, spXI K f vs H Q E → vs.length ≤ 100 := fun vs H Q E h => by
  obtain ⟨e, C, U, v, rfl, _⟩ := h
  show 2 ≤ 100
  decide
theorem rf_go {K : PySem.W.Frag} {C x d : Addr} {f : Str} {v : V} {H : Hp} {E : XK} (h : Refuses C [(f, v)] H E) (nx : H x = none) (nd : upd H x (XO C x none) d = none) :
    E (.ref C) (some x) (upd (upd (upd (upd H x (XO C x none)) d (.xd [(f, v)])) x (XO C x (some d))) x (XOn false C x (some d))) := by
  have dx : d ≠ x := fun z => by rw [z, upd_same] at nd; cases nd
  have nd' : H d = none := by rw [upd_ne dx] at nd; exact nd
  refine h x _ (fun b o e => ?_) nx ⟨false, some d, upd_same, .inr ⟨d, rfl, ?_⟩⟩
  · have bx := ne_of_none e nx
    have bd := ne_of_none e nd'
    rw [upd_ne bx, upd_ne bx, upd_ne bd, upd_ne bx]
    exact e
  · rw [upd_ne dx, upd_ne dx, upd_same]
theorem rf_go0 {C x : Addr} {H : Hp} {E : XK} (h : Refuses C [] H E) (nx : H x = none) : E (.ref C) (some x) (upd (upd H x (XO C x none)) x (XOn false C x none)) := by
  refine h x _ (fun b o e => ?_) nx ⟨false, none, upd_same, .inl ⟨rfl, rfl⟩⟩
  have bx := ne_of_none e nx
  rw [upd_ne bx, upd_ne bx]
  exact e
section
variable {P : Program} {w : World} {K : PySem.W.Frag} {mg : Str → Option Value} {base : Heap} {N : List Str} {qual : Str} {scope : Scope} {f : Addr} {cd : Value} {A : Around} {outer : List Env} {s : Shared} {H : Hp} {E : XK}
theorem ps_rf1 {x fn : Str} {C U fI : Addr} {fd : FuncData} {e : Expr} {te : TE} {p cpos pos : Pos} (M : Rf1 P w K mg base x C U fn fI fd) (hr : Room 2 (A.deeper (envOfC qual scope s.heap.objs.size f cd))) (hg : Gl (cxOf (CXR P w) P w K mg base N qual scope f cd A outer s H E) x)
    (he : PE (cxOf (CXR P w) P w K mg base N qual scope f cd A outer s H E) e te) (hse : starEach [e] (envOfC qual scope s.heap.objs.size f cd) = [(false, eval e (envOfC qual scope s.heap.objs.size f cd))] := by rfl) (hdb : (x == ("__debug__" : Str)) = false := by decide) :
    PS (cxOf (CXR P w) P w K mg base N qual scope f cd A outer s H E) (.Raise (some (.Call (.Name x p) [e] [] cpos)) none pos) (tRaise K E (tXMake C (spXI K fn) E0 (tCons te tNil))) :=
  ps_raise (pe_xmake M.cl M.init M.fn M.ok hr hg M.nm M.bd pass0 xi_few (pa_cons he pa_nil (hs := hse)) hdb hse rfl)
theorem ps_rf0 {x : Str} {C U : Addr} {p cpos pos : Pos} (M : Rf0 K mg x C U) (hg : Gl (cxOf (CXR P w) P w K mg base N qual scope f cd A outer s H E) x) (hdb : (x == ("__debug__" : Str)) = false := by decide) :
    PS (cxOf (CXR P w) P w K mg base N qual scope f cd A outer s H E) (.Raise (some (.Call (.Name x p) [] [] cpos)) none pos) (tRaise K E (tXMake0 C)) :=
  ps_raise (pe_xmake0 M.cl M.init hg M.nm hdb)
end
theorem rd_rf1 {K : PySem.W.Frag} {E : XK} {C U : Addr} {fn : Str} {i : Nat} {v : V} {D : Ends} {σ : St} {H : Hp} (T : XCls K C U) (nf : PySem.W.findIn K (.ref C) fn = some none) (hv : σ[i]? = some (some v)) (h : Refuses C [(fn, v)] H E) : tRaise K E (tXMake C (spXI K fn) E0 (tCons (tVar i) tNil)) D σ H :=
  ⟨v, hv, fun x nx => ⟨x, C, U, v, rfl, upd_same, T, nf, fun d nd => ⟨rfl, x, C, U, some d, rfl, upd_same, T, rf_go (K := K) h nx nd⟩⟩⟩
theorem rd_rf0 {K : PySem.W.Frag} {E : XK} {C U : Addr} {D : Ends} {σ : St} {H : Hp} (T : XCls K C U) (h : Refuses C [] H E) : tRaise K E (tXMake0 C) D σ H :=
  fun x nx => ⟨x, C, U, none, rfl, upd_same, T, rf_go0 h nx⟩
end L2
namespace L2
open PySem PySem.Spec PyProof.Rows
end L2
namespace L2
open PySem PySem.Spec PyProof.Rows
def CompB (J : It) (sub : List Nat) (tt : TT) (te : TE) (σ : St) (Q : VK) (H1 : Hp) : Prop := ∀ D, H1 D = none → ∃ W : Nat → Nat → List V → Hp → Prop, (∃ m, W 0 m [] (upd H1 D (.lst []))) ∧ ∀ i m ys H2, W i m ys H2 →
  (J.stop i H2 ∧ Q (.ref D) H2) ∨ (J.go i H2 ∧ ∃ N : List V → Hp → Prop, (∀ ys' H', N ys' H' → ∃ m', m' < m ∧ W (i + 1) m' ys' H') ∧ ∀ v H3, J.yld i H2 v H3 → tt (some v :: subσ sub σ) H3 fun b H4 => if b = true then
    te (some v :: subσ sub σ) H4 fun y H5 => H5 D = some (.lst ys) ∧ ys.length < sizeLine ∧ N (ys ++ [y]) (upd H5 D (.lst (ys ++ [y])))
    else N ys H4)
section
variable {wi : TI} {sub : List Nat} {tt : TT} {te : TE} {σ : St} {H : Hp} {Q : VK} {K : PySem.W.Frag}
theorem rd_comp (h : wi σ H fun J H1 => CompB J sub tt te σ Q H1) : tComp wi sub tt te σ H Q := h
end
end L2
namespace Mine
open PySem L2
def top (i : Nat) : Stmt := PySem.Challenge.pw_unsaybook_k53_whole_knots_looked_at.main.body.getD i (.Pass ⟨0, 0, 0, 0⟩)
abbrev sIsWhole : Stmt := top 10
abbrev sIsDay : Stmt := top 11
abbrev sName : Stmt := top 12
abbrev sHas : Stmt := top 13
abbrev sCheck : Stmt := top 15
abbrev sOwner : Stmt := top 21
abbrev sAreBoxes : Stmt := top 22
abbrev sIsBox : Stmt := top 23
abbrev sWay : Stmt := top 24
abbrev sBelow : Stmt := top 25
structure Cal (P : Program) (w : World) (K : PySem.W.Frag) (mg : Str → Option Value) (base : Heap) (x : Str) (k : Nat) (ps : List Str) (sp : Sp) (f : Addr) (fd : FuncData) : Prop where
  ok : FnOk P w K mg base CX0 k f fd ps sp
  nm : mg x = some (.ref f)
  kp : PySem.W.keepIn K (.ref f) = true
  bd : Binds K fd ps []
structure Free (mg : Str → Option Value) : Prop where
  «len» : mg "len" = none
  «range» : mg "range" = none
  «sorted» : mg "sorted" = none
  «isinstance» : mg "isinstance" = none
  «int» : mg "int" = none
  «bool» : mg "bool" = none
  «str» : mg "str" = none
  «list» : mg "list" = none
  «tuple» : mg "tuple" = none
  «dict» : mg "dict" = none
  «set» : mg "set" = none
  «max» : mg "max" = none
  «min» : mg "min" = none
  «all» : mg "all" = none
  «enumerate» : mg "enumerate" = none
  «abs» : mg "abs" = none
  «reversed» : mg "reversed" = none
def Grow (H H' : Hp) : Prop := ∀ b o, H b = some o → H' b = some o
theorem Grow.refl {H : Hp} : Grow H H := fun _ _ e => e
theorem Grow.trans {H H1 H2 : Hp} (g : Grow H H1) (g' : Grow H1 H2) : Grow H H2 := fun b o e => g' b o (g b o e)
theorem Grow.new {H : Hp} {a : Addr} {o : HO} (n : H a = none) : Grow H (upd H a o) := fun b o e => by rw [upd_ne (ne_of_none e n)]; exact e
theorem Grow.free {H H' : Hp} (g : Grow H H') {a : Addr} (n : H' a = none) : H a = none := by
  cases e : H a with
  | none => rfl
  | some o => rw [g a o e] at n; cases n
def inZ (z : Str) (c : Nat) : Bool := decide (c ∈ z.cps.toList)
def hasB (x z : Str) (m : Int) : Bool := decide (1 ≤ (x.length : Int)) && (decide ((x.length : Int) ≤ m) && x.cps.toList.all (inZ z))
def spHas : Sp := fun vs H Q _ => ∃ (x z : Str) (m : Int), vs = [.str x, .str z, .int m] ∧ x.length < sizeLine ∧ ∀ H', Grow H H' → Q (.bl (hasB x z m)) H'
abbrev letZ : Str := Str.ofString "abcdefghijklmnopqrstuvwxyz"
structure Con (mg : Str → Option Value) : Prop where
  letters : ∃ t, mg "LETTERS" = some (.str letZ t)
  eight : ∃ t, mg "MOST_LETTERS" = some (.int 8 t)
  lastday : ∃ t, mg "LAST_DAY" = some (.int 399 t)
  top : ∃ t, mg "TOP" = some (.int 256 t)
  signs : ∃ t, mg "MOST_SIGNS" = some (.int 400 t)
  boxes : ∃ t, mg "MOST_BOXES" = some (.int 400 t)
def NotTy (K : PySem.W.Frag) (T : String) (H : Hp) (v : V) : Prop := ∃ t, TyOf K H v t ∧ PySem.W.kitOne K t (.type T) = some false
theorem tyGrow {K : PySem.W.Frag} {H H' : Hp} {v : V} {t : Value} (h : TyOf K H v t) (g : Grow H H') : TyOf K H' v t := by
  cases h with
  | non => exact .non
  | bl x => exact .bl x
  | int i => exact .int i
  | str x => exact .str x
  | flt x => exact .flt x
  | lst e => exact .lst (g _ _ e)
  | frz e => exact .frz (g _ _ e)
  | tup e => exact .tup (g _ _ e)
  | dK e => exact .dK (g _ _ e)
  | dT e => exact .dT (g _ _ e)
  | ins e cl ha hn htk hm => exact .ins (g _ _ e) cl ha hn htk hm
theorem NotTy.grow {K : PySem.W.Frag} {T : String} {H H' : Hp} {v : V} (h : NotTy K T H v) (g : Grow H H') : NotTy K T H' v := let ⟨t, a, e⟩ := h; ⟨t, tyGrow a g, e⟩
def OddI (K : PySem.W.Frag) (H : Hp) (v : V) : Prop := NotTy K "int" H v ∨ ∃ c, v = .bl c
theorem OddI.grow {K : PySem.W.Frag} {H H' : Hp} {v : V} (h : OddI K H v) (g : Grow H H') : OddI K H' v := h.imp (·.grow g) id
inductive WholeV (K : PySem.W.Frag) (H : Hp) (lo hi : Int) (v : V) : Bool → Prop
  | int (i : Int) (h : v = .int i) : WholeV K H lo hi v (decide (lo ≤ i) && decide (i ≤ hi))
  | odd (h : OddI K H v) : WholeV K H lo hi v false
theorem WholeV.grow {K : PySem.W.Frag} {H H' : Hp} {lo hi : Int} {v : V} {b : Bool} (h : WholeV K H lo hi v b) (g : Grow H H') : WholeV K H' lo hi v b := by
  cases h with
  | int i h => exact .int i h
  | odd h => exact .odd (h.grow g)
inductive NameV (K : PySem.W.Frag) (H : Hp) (v : V) : Bool → Prop
  | str (x : Str) (h : v = .str x) (hl : x.length < sizeLine) : NameV K H v (hasB x letZ 8)
  | odd (h : NotTy K "str" H v) : NameV K H v false
theorem NameV.grow {K : PySem.W.Frag} {H H' : Hp} {v : V} {b : Bool} (h : NameV K H v b) (g : Grow H H') : NameV K H' v b := by
  cases h with
  | str x h hl => exact .str x h hl
  | odd h => exact .odd (h.grow g)
inductive OwnerV (K : PySem.W.Frag) (H : Hp) (v : V) : Bool → Prop
  | str (x : Str) (h : v = .str x) (hl : x.length < sizeLine) : OwnerV K H v (decide (1 ≤ (x.length : Int)) && decide ((x.length : Int) ≤ 400))
  | odd (h : NotTy K "str" H v) : OwnerV K H v false
def spWholeA (K : PySem.W.Frag) : Sp := fun vs H Q _ => ∃ (v : V) (lo hi : Int) (c : Bool), vs = [v, .int lo, .int hi] ∧ WholeV K H lo hi v c ∧ Q (.bl c) H
def spDayA (K : PySem.W.Frag) : Sp := fun vs H Q _ => ∃ (v : V) (c : Bool), vs = [v] ∧ WholeV K H 0 399 v c ∧ Q (.bl c) H
def spNameA (K : PySem.W.Frag) : Sp := fun vs H Q _ => ∃ (v : V) (c : Bool), vs = [v] ∧ NameV K H v c ∧ ∀ H', Grow H H' → Q (.bl c) H'
def spOwnerA (K : PySem.W.Frag) : Sp := fun vs H Q _ => ∃ (v : V) (c : Bool), vs = [v] ∧ OwnerV K H v c ∧ Q (.bl c) H
theorem tcomp_in {σ : St} {H : Hp} {Q : VK} {x z : Str} (e0 : σ[0]? = some (some (.str x))) (e1 : σ[1]? = some (some (.str z))) (hl : x.length < sizeLine)
    (hq : ∀ (D : Addr) (H' : Hp), H D = none → Grow H H' → H' D = some (.lst ((x.cps.toList.map (inZ z)).map V.bl)) → Q (.ref D) H') :
    tComp (iStr (tVar 0)) [1] (fun _ H Q => Q true H) (tOp (fun x y H Q => ∃ i j, x = .str i ∧ y = .str j ∧ Q (.bl (!(Builtin.Str.occurrences j i 0 j.length 1).isEmpty)) H) (tVar 0) (tVar 1)) σ H Q := by
  have es : subσ [1] σ = [some (.str z)] := by
    show [(σ[1]?).join] = _
    rw [e1]; rfl
  refine ⟨_, e0, x, rfl, fun D nD => comp_str (x := x) (sub := [1]) (tt := fun _ H Q => Q true H) (te := tOp (fun x y H Q => ∃ i j, x = .str i ∧ y = .str j ∧ Q (.bl (!(Builtin.Str.occurrences j i 0 j.length 1).isEmpty)) H) (tVar 0) (tVar 1)) (Q := Q) (σ := σ)
    (fun i ys H2 => ys = ((x.cps.toList.take i).map (inZ z)).map V.bl ∧ H2 = upd H D (.lst ys)) ⟨rfl, rfl⟩ (fun i c ys H2 hi hh => ?_) fun ys H2 hh => ?_⟩
  · obtain ⟨rfl, rfl⟩ := hh
    rw [es]
    show (if true = true then _ else _)
    rw [if_pos rfl]
    have hi' : x.cps.toList[i]? = some c := by simpa using hi
    have hil : i < x.cps.size := (Array.getElem?_eq_some_iff.mp hi).1
    refine ⟨_, rfl, _, rfl, _, _, rfl, rfl, upd_same, ?_, ?_, ?_⟩
    · rw [List.length_map, List.length_map, List.length_take]
      have : x.length < sizeLine := hl
      have e : x.cps.toList.length = x.length := by simp [Str.length]
      rw [e]
      omega
    · rw [List.take_add_one, hi', List.map_append, List.map_append, PySem.StrLaws.found_one]
      rfl
    · rw [upd_upd]
  · obtain ⟨rfl, rfl⟩ := hh
    refine hq D _ nD (Grow.new nD) ?_
    rw [upd_same, List.take_of_length_le (by simp)]
section
variable {P : Program} {w : World} {K : PySem.W.Frag} {mg : Str → Option Value} {base : Heap}
theorem scHas : FnScope ["text", "signs", "most"] ["text", "signs", "most"] (defScope sHas) := ⟨rfl, rfl, rfl, by decide +kernel, rfl, by decide +kernel, by decide +kernel⟩
theorem ok_has {f : Addr} {fd : FuncData} (F : Fun K "has_only" "has_only" sHas f fd) (N : Free mg) : FnOk P w K mg base CX0 1 f fd ["text", "signs", "most"] spHas := by
  refine F.ok (k := 0) scHas (fun vs H Q E h => ?_) (fun cdv A outer s H vs Q E hr h => ?_)
  · obtain ⟨x, z, m, rfl, _⟩ := h
    rfl
  · obtain ⟨x, z, m, rfl, hl, hq⟩ := h
    refine ⟨_, pss_one (ps_ret (pe_and (pe_chain op_le op_le pe_int (pe_callB call_len_str (by rfl) N.len PySem.boot_len (pa_cons (pv 0) pa_nil)) (pv 2))
      (pe_one (pe_callB (call_allB rfl) (by rfl) N.all PyProof.Rows.Boot.«all» (pa_cons (pe_comp1 (y := "signs") (i := 1) rfl (pi_str (pv 0)) rfl rfl (by decide) (by decide) rfl (by decide) rfl (.inr (.inl rfl)) (by show (some NameKind.cell) ≠ some NameKind.local; decide) (.inl rfl) rfl (fun C fp s H => pts_nil) (fun C fp s H => pe_cmpR op_in_str (pv 0) (pv 1) (by with_unfolding_all rfl))) pa_nil))))), ?_⟩
    have gr : ∀ {b}, hasB x z m = b → Q (.bl b) H := fun {b} e => by rw [← e]; exact hq H Grow.refl
    refine ⟨_, rfl, x, rfl, Nat.le_of_lt hl, _, _, rfl, rfl, _, rfl, ite2 (fun h1 => ?_) fun h1 => ⟨_, rfl, iteF (gr ?_)⟩⟩
    · refine ⟨_, rfl, _, _, rfl, rfl, _, rfl, ite2 (fun h2 => ?_) fun h2 => gr ?_⟩
      · unfold tCB tCons
        refine tcomp_in rfl rfl hl fun D H' nD g hD => ⟨D, _, rfl, SqL.of hD, ?_⟩
        have e : hasB x z m = (x.cps.toList.map (inZ z)).all id := by
          unfold hasB
          rw [h1, h2, Bool.true_and, Bool.true_and, List.all_map]; rfl
        rw [← e]
        exact hq H' g
      · unfold hasB
        rw [Bool.eq_false_iff.mpr h2, Bool.false_and, Bool.and_false]
    · unfold hasB
      rw [Bool.eq_false_iff.mpr h1, Bool.false_and]
end
section
variable {P : Program} {w : World} {K : PySem.W.Frag} {mg : Str → Option Value} {base : Heap}
theorem scIsWhole : FnScope ["thing", "low", "high"] ["thing", "low", "high"] (defScope sIsWhole) := ⟨rfl, rfl, rfl, by decide +kernel, rfl, by decide +kernel, by decide +kernel⟩
theorem ok_isWhole {f : Addr} {fd : FuncData} (F : Fun K "is_whole" "is_whole" sIsWhole f fd) (N : Free mg) : FnOk P w K mg base CX0 1 f fd ["thing", "low", "high"] (spWholeA K) := by
  refine F.ok (k := 0) scIsWhole (fun vs H Q E h => ?_) (fun cdv A outer s H vs Q E hr h => ?_)
  · obtain ⟨v, lo, hi, c, rfl, _⟩ := h
    rfl
  · obtain ⟨v, lo, hi, c, rfl, hv, q⟩ := h
    have hu := hu_of hr
    refine ⟨_, (pss_one (ps_ret (pe_and (pe_callB call_isinst (by rfl) N.isinstance PyProof.Rows.Boot.«isinstance» (pa_cons (pv 0) (pa_cons (pe_bltn (v := .ty "int") (by rfl) N.int PyProof.Rows.Boot.«int» rfl) pa_nil))) (pe_and (pe_not (pe_callB call_isinst (by rfl) N.isinstance PyProof.Rows.Boot.«isinstance» (pa_cons (pv 0) (pa_cons (pe_bltn (v := .ty "bool") (by rfl) N.bool PyProof.Rows.Boot.«bool» rfl) pa_nil)))) (pe_one (pe_chain op_le op_le (pv 1) (pv 0) (pv 2))))))), ?_⟩
    cases hv with
    | int i e =>
      subst e
      refine ⟨_, rfl, .int i, "int", _, true, rfl, .int i, by rfl, _, rfl, iteT ⟨_, rfl, .int i, "bool", _, false, rfl, .int i, by rfl, _, rfl, _, rfl, iteT ?_⟩⟩
      refine ⟨_, rfl, _, rfl, _, _, rfl, rfl, _, rfl, ite2 (fun h1 => ⟨_, rfl, _, _, rfl, rfl, ?_⟩) fun h1 => ?_⟩
      · rw [h1, Bool.true_and] at q
        exact q
      · rw [Bool.eq_false_iff.mpr h1, Bool.false_and] at q
        exact q
    | odd h =>
      rcases h with ⟨t, ty, e⟩ | ⟨c, rfl⟩
      · exact ⟨_, rfl, v, "int", _, false, rfl, ty, e, _, rfl, iteF q⟩
      · exact ⟨_, rfl, .bl c, "int", _, true, rfl, .bl c, by rfl, _, rfl, iteT ⟨_, rfl, .bl c, "bool", _, true, rfl, .bl c, by rfl, _, rfl, _, rfl, iteF q⟩⟩
end
section
variable {P : Program} {w : World} {K : PySem.W.Frag} {mg : Str → Option Value} {base : Heap}
theorem scIsDay : FnScope ["thing"] ["thing"] (defScope sIsDay) := ⟨rfl, rfl, rfl, by decide +kernel, rfl, by decide +kernel, by decide +kernel⟩
theorem ok_isDay {f f1 : Addr} {fd : FuncData} (F : Fun K "is_day" "is_day" sIsDay f fd) (Z : Con mg) {fd1 : FuncData} (CW : Cal P w K mg base "is_whole" 1 ["thing", "low", "high"] (spWholeA K) f1 fd1) : FnOk P w K mg base CX0 2 f fd ["thing"] (spDayA K) := by
  obtain ⟨t1, c1⟩ := Z.lastday
  refine F.ok (k := 1) scIsDay (fun vs H Q E h => ?_) (fun cdv A outer s H vs Q E hr h => ?_)
  · obtain ⟨v, c, rfl, _⟩ := h
    rfl
  · obtain ⟨v, c, rfl, hv, q⟩ := h
    have hu := hu_of hr
    refine ⟨_, (pss_one (ps_ret (pe_call CW.ok (hr.mono (by decide)) rfl CW.nm CW.kp CW.bd .nil pass0 (pa_cons (pv 0) (pa_cons pe_int (pa_cons (pe_glob (v := .int 399) (by rfl) c1 ⟨_, rfl⟩) pa_nil)))))), ?_⟩
    exact ⟨_, rfl, v, 0, 399, c, rfl, hv, q⟩
end
section
variable {P : Program} {w : World} {K : PySem.W.Frag} {mg : Str → Option Value} {base : Heap}
theorem scName : FnScope ["thing"] ["thing"] (defScope sName) := ⟨rfl, rfl, rfl, by decide +kernel, rfl, by decide +kernel, by decide +kernel⟩
theorem ok_name {f f1 : Addr} {fd : FuncData} (F : Fun K "is_name" "is_name" sName f fd) (N : Free mg) (C : Con mg) {fd1 : FuncData} (CH : Cal P w K mg base "has_only" 1 ["text", "signs", "most"] spHas f1 fd1) : FnOk P w K mg base CX0 2 f fd ["thing"] (spNameA K) := by
  obtain ⟨t1, c1⟩ := C.letters
  obtain ⟨t2, c2⟩ := C.eight
  refine F.ok (k := 1) scName (fun vs H Q E h => ?_) (fun cdv A outer s H vs Q E hr h => ?_)
  · obtain ⟨v, c, rfl, _⟩ := h
    rfl
  · obtain ⟨v, c, rfl, hv, hq⟩ := h
    have hu := hu_of hr
    refine ⟨_, (pss_one (ps_ret (pe_and (pe_callB call_isinst (by rfl) N.isinstance PyProof.Rows.Boot.«isinstance» (pa_cons (pv 0) (pa_cons (pe_bltn (v := .ty "str") (by rfl) N.str PyProof.Rows.Boot.«str» rfl) pa_nil))) (pe_one (pe_call CH.ok (hr.mono (by decide)) rfl CH.nm CH.kp CH.bd .nil pass0 (pa_cons (pv 0) (pa_cons (pe_glob (v := .str letZ) (by rfl) c1 ⟨_, rfl⟩) (pa_cons (pe_glob (v := .int 8) (by rfl) c2 ⟨_, rfl⟩) pa_nil)))))))), ?_⟩
    cases hv with
    | str x e hl =>
      subst e
      exact ⟨_, rfl, .str x, "str", _, true, rfl, .str x, by rfl, _, rfl, iteT ⟨_, rfl, x, letZ, 8, rfl, hl, hq⟩⟩
    | odd h =>
      obtain ⟨t, ty, e⟩ := h
      exact ⟨_, rfl, v, "str", _, false, rfl, ty, e, _, rfl, iteF (hq _ Grow.refl)⟩
end
section
variable {P : Program} {w : World} {K : PySem.W.Frag} {mg : Str → Option Value} {base : Heap}
theorem scOwner : FnScope ["thing"] ["thing"] (defScope sOwner) := ⟨rfl, rfl, rfl, by decide +kernel, rfl, by decide +kernel, by decide +kernel⟩
theorem ok_owner {f : Addr} {fd : FuncData} (F : Fun K "is_owner" "is_owner" sOwner f fd) (N : Free mg) (C : Con mg) : FnOk P w K mg base CX0 1 f fd ["thing"] (spOwnerA K) := by
  obtain ⟨t1, c1⟩ := C.signs
  refine F.ok (k := 0) scOwner (fun vs H Q E h => ?_) (fun cdv A outer s H vs Q E hr h => ?_)
  · obtain ⟨v, c, rfl, _⟩ := h
    rfl
  · obtain ⟨v, c, rfl, hv, q⟩ := h
    have hu := hu_of hr
    refine ⟨_, (pss_one (ps_ret (pe_and (pe_callB call_isinst (by rfl) N.isinstance PyProof.Rows.Boot.«isinstance» (pa_cons (pv 0) (pa_cons (pe_bltn (v := .ty "str") (by rfl) N.str PyProof.Rows.Boot.«str» rfl) pa_nil))) (pe_one (pe_chain op_le op_le pe_int (pe_callB call_len_str (by rfl) N.len PySem.boot_len (pa_cons (pv 0) pa_nil)) (pe_glob (v := .int 400) (by rfl) c1 ⟨_, rfl⟩)))))), ?_⟩
    cases hv with
    | str x e hl =>
      subst e
      refine ⟨_, rfl, .str x, "str", _, true, rfl, .str x, by rfl, _, rfl, iteT ?_⟩
      refine ⟨_, rfl, x, rfl, Nat.le_of_lt hl, _, _, rfl, rfl, _, rfl, ite2 (fun h1 => ⟨_, _, rfl, rfl, ?_⟩) fun h1 => ?_⟩
      · rw [h1, Bool.true_and] at q
        exact q
      · rw [Bool.eq_false_iff.mpr h1, Bool.false_and] at q
        exact q
    | odd h =>
      obtain ⟨t, ty, e⟩ := h
      exact ⟨_, rfl, v, "str", _, false, rfl, ty, e, _, rfl, iteF q⟩
end
def spBelow : Sp := fun vs H Q _ => ∃ (j : Nat) (k f l : Int), vs = [.int k, .int f, .int l] ∧ Kn.Lev j k ∧ ∀ (p : Addr), H p = none → Q (.ref p) (upd H p (.lst ((below j k f l).map V.int)))
def spWay : Sp := fun vs H Q _ => ∃ (f l : Int), vs = [.int f, .int l] ∧ 0 ≤ f ∧ f ≤ l ∧ l < 400 ∧ ∀ (p : Addr) (H' : Hp), H p = none → Grow H H' → H' p = some (.lst ((Kn.way f l).map V.int)) → Q (.ref p) H'
theorem below_eq (j : Nat) (k f l : Int) : below j k f l = (if 0 < ((2 ^ j : Nat) : Int) / 2 ∧ f + 1 < k then [k - ((2 ^ j : Nat) : Int) / 2] else []) ++ (if 0 < ((2 ^ j : Nat) : Int) / 2 ∧ k < l + 1 then [k + ((2 ^ j : Nat) : Int) / 2] else []) := by
  cases j with
  | zero =>
    have e : ((2 ^ 0 : Nat) : Int) / 2 = 0 := by decide
    rw [e, if_neg (by omega), if_neg (by omega)]
    rfl
  | succ j =>
    have p : 1 ≤ 2 ^ j := Nat.one_le_two_pow
    have e : ((2 ^ (j + 1) : Nat) : Int) / 2 = ((2 ^ j : Nat) : Int) := by rw [Nat.pow_succ]; omega
    rw [e, below]
    have p' : (0 : Int) < ((2 ^ j : Nat) : Int) := by omega
    simp only [p', true_and]
theorem below_len (j : Nat) (k f l : Int) : (below j k f l).length ≤ 2 := by
  rw [below_eq, List.length_append]
  split <;> split <;> simp
section
variable {P : Program} {w : World} {K : PySem.W.Frag} {mg : Str → Option Value} {base : Heap}
theorem scBelow : FnScope ["knot", "first", "last", "step", "below"] ["knot", "first", "last"] (defScope sBelow) := ⟨rfl, rfl, rfl, by decide +kernel, rfl, by decide +kernel, by decide +kernel⟩
theorem ok_below {f : Addr} {fd : FuncData} (F : Fun K "knots_below" "knots_below" sBelow f fd)  : FnOk P w K mg base CX0 1 f fd ["knot", "first", "last"] spBelow := by
  refine F.ok (k := 0) scBelow (fun vs H Q E h => ?_) (fun cdv A outer s H vs Q E hr h => ?_)
  · obtain ⟨j, k, f, l, rfl, _⟩ := h
    rfl
  · obtain ⟨j, k, f, l, rfl, hj, q⟩ := h
    have hu := hu_of hr
    refine ⟨_, (pss_cons (ps_set (i := 3) scBelow.nd rfl (Or.inl rfl) (pe_op op_fdiv (pe_op op_and (pv 0) (pe_un un_neg (pv 0))) pe_int))
      (pss_cons (ps_set (i := 4) scBelow.nd rfl (Or.inl rfl) (pe_lst pa_nil))
      (pss_cons (ps_if (PW.pt (pw_and (pt_cmpR op_gt (pv 3) pe_int (nomark _)) (pw_and1 (pt_cmpR op_lt (pe_op op_add (pv 1) pe_int) (pv 0) (nomark _))))) (pss_one (ps_expr (pe_bm PySem.F.plainAttrs_list PySem.F.slot_list_append PySem.F.type_list_append mt_append (pv 4) (pa_cons (pe_op op_sub (pv 0) (pv 3)) pa_nil)))) pss_nil)
      (pss_cons (ps_if (PW.pt (pw_and (pt_cmpR op_gt (pv 3) pe_int (nomark _)) (pw_and1 (pt_cmpR op_gt (pe_op op_add (pv 2) pe_int) (pv 0) (nomark _))))) (pss_one (ps_expr (pe_bm PySem.F.plainAttrs_list PySem.F.slot_list_append PySem.F.type_list_append mt_append (pv 4) (pa_cons (pe_op op_add (pv 0) (pv 3)) pa_nil)))) pss_nil)
      (pss_one (ps_ret (pv 4))))))), ?_⟩
    refine rd_seq ⟨_, rfl, _, rfl, k, rfl, _, _, rfl, rfl, _, _, rfl, rfl, ⟨by decide, by decide⟩, ?_⟩
    rw [hj.low]
    have be := below_eq j k f l
    dsimp only [gName]
    generalize ((2 ^ j : Nat) : Int) / 2 = st at be ⊢
    rw [be] at q
    refine rd_seq (rd_asg ⟨by show 0 ≤ sizeLine; decide, fun p np => ?_⟩)
    have fin : ∀ (A B : List Int), (if 0 < st ∧ f + 1 < k then [k - st] else []) ++ (if 0 < st ∧ k < l + 1 then [k + st] else []) = A → A.map V.int = B.map V.int → ∀ H', H' = upd H p (.lst (B.map V.int)) → Q (.ref p) H' := fun A B e1 e2 H' e3 => by rw [e3, ← e2, ← e1]; exact q p np
    dsimp only [gName]
    have second : ∀ (A : List Int), (if 0 < st ∧ f + 1 < k then [k - st] else []) = A → A.length ≤ 1 → tSeq (tIfS (tAnd (tTest (tOp (rI0 fun i j => V.bl (decide (j < i))) (tVar 3) (tC (V.int 0)))) (tTest (tOp (rI0 fun i j => V.bl (decide (j < i))) (tOp (rI0 fun i j => V.int (i + j)) (tVar 2) (tC (V.int 1))) (tVar 0)))) (tDrop (tBM K "list" rAppend (tVar 4) (tCons (tOp (rI0 fun i j => V.int (i + j)) (tVar 0) (tVar 3)) tNil))) tNext) (tRet (tVar 4)) { nx := fun x H' => Q V.non H', rt := Q } [some (.int k), some (.int f), some (.int l), some (.int st), some (.ref p)] (upd H p (.lst (A.map V.int))) := fun A eA hA => by
      refine rd_seq (rd_if ⟨_, rfl, _, _, rfl, rfl, _, rfl, ite2 (fun h1 => ⟨_, rfl, _, _, rfl, rfl, _, rfl, _, _, rfl, rfl, _, rfl, ite2 (fun h2 => ?_) fun h2 => ?_⟩) fun h1 => iteF ?_⟩)
      · refine rd_expr ⟨_, rfl, .inl ⟨rfl, _, SqL.of upd_same⟩, _, rfl, _, rfl, _, _, rfl, rfl, p, _, _, rfl, rfl, upd_same, ?_, ⟨_, rfl, ?_⟩⟩
        · rw [List.length_map]; exact small1000 (by omega)
        · refine fin _ (A ++ [k + st]) (by rw [eA, if_pos ⟨of_decide_eq_true h1, of_decide_eq_true h2⟩]) (by rfl) _ (by rw [upd_upd, List.map_append]; rfl)
      · exact rd_next ⟨_, rfl, fin _ A (by rw [eA, if_neg (fun h => h2 (decide_eq_true h.2)), List.append_nil]) rfl _ rfl⟩
      · exact rd_next ⟨_, rfl, fin _ A (by rw [eA, if_neg (fun h => h1 (decide_eq_true h.1)), List.append_nil]) rfl _ rfl⟩
    refine rd_seq (rd_if ⟨_, rfl, _, _, rfl, rfl, _, rfl, ite2 (fun h1 => ⟨_, rfl, _, _, rfl, rfl, _, rfl, _, _, rfl, rfl, _, rfl, ite2 (fun h2 => ?_) fun h2 => ?_⟩) fun h1 => iteF ?_⟩)
    · refine rd_expr ⟨_, rfl, .inl ⟨rfl, _, SqL.of upd_same⟩, _, rfl, _, rfl, _, _, rfl, rfl, p, _, _, rfl, rfl, upd_same, ?_, ?_⟩
      · exact small1000 (by show 0 ≤ _; omega)
      · rw [upd_upd]
        exact second [k - st] (by rw [if_pos ⟨of_decide_eq_true h1, of_decide_eq_true h2⟩]) (Nat.le_refl _)
    · exact rd_next (second [] (by rw [if_neg (fun h => h2 (decide_eq_true h.2))]) (by decide))
    · exact rd_next (second [] (by rw [if_neg (fun h => h1 (decide_eq_true h.1))]) (by decide))
end
theorem way_next {j : Nat} {k f l : Int} (u : Kn.Under j k f l) (h : ¬ (f + 1 ≤ k ∧ k ≤ l + 1)) : ∃ i k', j = i + 1 ∧ below j k f l = [k'] ∧ Kn.wayL j k f l = k :: Kn.wayL i k' f l ∧ Kn.Under i k' f l ∧ (Kn.Lev j k → Kn.Lev i k') := by
  cases j with
  | zero => exact absurd u.zero h
  | succ i =>
    have hfl := u.2.2
    by_cases c : l + 1 < k
    · refine ⟨i, _, rfl, ?_, ?_, u.left c, fun L => L.left⟩
      · rw [below, if_pos (by omega), if_neg (by omega)]; rfl
      · rw [Kn.wayL, if_neg h, if_pos c]
    · have c' : k < f + 1 := by omega
      refine ⟨i, _, rfl, ?_, ?_, u.right c', fun L => L.right⟩
      · rw [below, if_neg (by omega), if_pos (by omega)]; rfl
      · rw [Kn.wayL, if_neg h, if_neg c]
inductive WayW (H : Hp) (f l : Int) (p : Addr) (m : Nat) (σ : St) (H' : Hp) : Prop
  | mk (pre : List Int) (k : Int) (h1 : σ = [some (.int f), some (.int l), some (.ref p)]) (h2 : ∀ b o, H b = some o → H' b = some o) (h3 : H' p = some (.lst ((pre ++ [k]).map V.int))) (h4 : Kn.Lev m k) (h5 : Kn.Under m k f l) (h6 : pre ++ Kn.wayL m k f l = Kn.way f l) (h7 : pre.length ≤ 8 - m) : WayW H f l p m σ H'
section
variable {P : Program} {w : World} {K : PySem.W.Frag} {mg : Str → Option Value} {base : Heap}
theorem scWay : FnScope ["first", "last", "way"] ["first", "last"] (defScope sWay) := ⟨rfl, rfl, rfl, by decide +kernel, rfl, by decide +kernel, by decide +kernel⟩
theorem ok_way {f f1 : Addr} {fd : FuncData} (F : Fun K "way_to" "way_to" sWay f fd) (Z : Con mg) {fd1 : FuncData} (CB : Cal P w K mg base "knots_below" 1 ["knot", "first", "last"] spBelow f1 fd1) : FnOk P w K mg base CX0 2 f fd ["first", "last"] spWay := by
  obtain ⟨t1, c1⟩ := Z.top
  refine F.ok (k := 1) scWay (fun vs H Q E h => ?_) (fun cdv A outer s H vs Q E hr h => ?_)
  · obtain ⟨f, l, rfl, _⟩ := h
    rfl
  · obtain ⟨f, l, rfl, h0, h1, h2, q⟩ := h
    have hu := hu_of hr
    refine ⟨_, (pss_cons (ps_set (i := 2) scWay.nd rfl (Or.inl rfl) (pe_lst (pa_cons (pe_glob (v := .int 256) (by rfl) c1 ⟨_, rfl⟩) pa_nil)))
      (pss_cons (ps_while PassesOwn.never (pt_not (pt_chain op_le op_le (pe_op op_add (pv 0) pe_int) (pe_ix ix_list (pv 2) (pe_un un_neg pe_int) (fun _ _ => rfl)) (pe_op op_add (pv 1) pe_int))) (pss_one (ps_expr (pe_bm PySem.F.plainAttrs_list PySem.F.slot_list_extend PySem.F.type_list_extend mt_extend (pv 2) (pa_cons (pe_call CB.ok (hr.mono (by decide)) rfl CB.nm CB.kp CB.bd .nil pass0 (pa_cons (pe_ix ix_list (pv 2) (pe_un un_neg pe_int) (fun _ _ => rfl)) (pa_cons (pv 0) (pa_cons (pv 1) pa_nil)))) pa_nil)))))
      (pss_one (ps_ret (pv 2))))), ?_⟩
    refine rd_seq (rd_asg ⟨by show 1 ≤ sizeLine; decide, fun p np => ?_⟩)
    refine rd_seq (rd_while (WayW H f l p) (m := 8) ⟨[], 256, rfl, fun b o e => by rw [upd_ne (ne_of_none e np)]; exact e, upd_same, Kn.Lev.top, Kn.Under.top h0 h1 h2, rfl, by decide⟩ fun m σ H' hW => ?_)
    obtain ⟨pre, k, rfl, g, hp, L, U, hw, hl⟩ := hW
    have el : atI ((pre ++ [k]).map V.int) (-1) = some (.int k) := by rw [List.map_append]; exact atI_snoc _ _
    refine rd_chainI (i := f + 1) (j := k) (k := l + 1) (fun R h => ⟨_, rfl, _, _, rfl, rfl, h⟩) (fun R h => ⟨_, rfl, 1, rfl, p, _, _, _, rfl, rfl, SqL.of hp, el, h⟩) (fun R h => ⟨_, rfl, _, _, rfl, rfl, h⟩) ?_
    by_cases c : f + 1 ≤ k ∧ k ≤ l + 1
    · rw [decide_eq_true c.1, decide_eq_true c.2]
      refine iteF ⟨_, rfl, q p H' np g ?_⟩
      rw [hp, ← hw]
      have : Kn.wayL m k f l = [k] := by
        cases m with
        | zero => rfl
        | succ m => rw [Kn.wayL, if_pos c]
      rw [this]
    · have cf : (decide (f + 1 ≤ k) && decide (k ≤ l + 1)) = false := by
        rw [Bool.and_eq_false_iff]
        by_cases c1 : f + 1 ≤ k
        · exact .inr (decide_eq_false fun c2 => c ⟨c1, c2⟩)
        · exact .inl (decide_eq_false c1)
      rw [cf]
      obtain ⟨i, k', rfl, eb, ew, U', hL⟩ := way_next U c
      refine iteT ⟨_, fun _ _ h => h, rd_expr ⟨_, rfl, .inl ⟨rfl, _, SqL.of hp⟩, _, rfl, 1, rfl, ⟨p, _, _, _, rfl, rfl, SqL.of hp, el, _, rfl, _, rfl, i + 1, k, f, l, rfl, L, fun b nb => ?_⟩⟩⟩
      have hpb : p ≠ b := ne_of_none hp nb
      refine ⟨p, b, _, _, rfl, rfl, by rw [upd_ne hpb]; exact hp, upd_same, ?_, i, Nat.lt_succ_self i, pre ++ [k], k', rfl, fun b' o e => ?_, ?_, hL L, U', ?_, ?_⟩
      · rw [eb, List.length_map, List.length_map, List.length_append]
        refine Nat.le_of_lt (small1000 ?_)
        simp only [List.length_singleton]
        omega
      · rw [upd_ne (ne_of_none e np), upd_ne (ne_of_none (g _ _ e) nb)]
        exact g _ _ e
      · rw [upd_same, eb, List.map_append (l₁ := pre ++ [k])]
      · rw [← hw, ew, List.append_assoc]; rfl
      · rw [List.length_append]
        simp only [List.length_singleton]
        have := L.1
        omega
end
end Mine
namespace Mine
open PySem L2
inductive BoxV (K : PySem.W.Frag) (H : Hp) (x : V) : Bool → Prop
  | ty (h : NotTy K "tuple" H x) : BoxV K H x false
  | len (p : Addr) (xs : List V) (h1 : x = .ref p) (h2 : H p = some (.tup xs)) (h3 : xs.length ≠ 3) : BoxV K H x false
  | name (p : Addr) (x0 x1 x2 : V) (h1 : x = .ref p) (h2 : H p = some (.tup [x0, x1, x2])) (h3 : NameV K H x0 false) : BoxV K H x false
  | day (p : Addr) (x0 x1 x2 : V) (h1 : x = .ref p) (h2 : H p = some (.tup [x0, x1, x2])) (h3 : NameV K H x0 true) (h4 : WholeV K H 0 399 x1 false) : BoxV K H x false
  | whole (p : Addr) (x0 x2 : V) (d : Int) (c : Bool) (h1 : x = .ref p) (h2 : H p = some (.tup [x0, .int d, x2])) (h3 : NameV K H x0 true) (h4 : 0 ≤ d) (h5 : d ≤ 399) (h6 : WholeV K H d 399 x2 c) : BoxV K H x c
theorem BoxV.grow {K : PySem.W.Frag} {H H' : Hp} {x : V} {c : Bool} (h : BoxV K H x c) (g : Grow H H') : BoxV K H' x c := by
  cases h with
  | ty h => exact .ty (h.grow g)
  | len p xs h1 h2 h3 => exact .len p xs h1 (g _ _ h2) h3
  | name p x0 x1 x2 h1 h2 h3 => exact .name p x0 x1 x2 h1 (g _ _ h2) (h3.grow g)
  | day p x0 x1 x2 h1 h2 h3 h4 => exact .day p x0 x1 x2 h1 (g _ _ h2) (h3.grow g) (h4.grow g)
  | whole p x0 x2 d c h1 h2 h3 h4 h5 h6 => exact .whole p x0 x2 d c h1 (g _ _ h2) (h3.grow g) h4 h5 (h6.grow g)
theorem WholeV.at {K : PySem.W.Frag} {H : Hp} {lo hi i : Int} (h0 : lo ≤ i) (h1 : i ≤ hi) : WholeV K H lo hi (.int i) true := by
  have := WholeV.int (K := K) (H := H) (lo := lo) (hi := hi) i rfl
  rwa [decide_eq_true h0, decide_eq_true h1] at this
theorem NameV.at {K : PySem.W.Frag} {H : Hp} {x : Str} {c : Bool} (h : hasB x letZ 8 = c) (hl : x.length < sizeLine) : NameV K H (.str x) c := h ▸ .str x rfl hl
def BxOk (r : RwB) : Prop := hasB r.1 letZ 8 = true ∧ r.1.length < sizeLine ∧ 0 ≤ r.2.1 ∧ r.2.1 ≤ r.2.2 ∧ r.2.2 < 400
theorem BoxV.good {K : PySem.W.Frag} {H : Hp} {p : Addr} {r : RwB} (h : H p = some (.tup (rowB r))) (ok : BxOk r) : BoxV K H (.ref p) true :=
  .whole p (.str r.1) (.int r.2.2) r.2.1 true rfl h (.at ok.1 ok.2.1) ok.2.2.1 (by have := ok.2.2.2; omega) (.at ok.2.2.2.1 (by have := ok.2.2.2.2; omega))
def spIsBox (K : PySem.W.Frag) : Sp := fun vs H Q _ => ∃ (x : V) (c : Bool), vs = [x] ∧ BoxV K H x c ∧ ∀ H', Grow H H' → Q (.bl c) H'
inductive BoxesV (K : PySem.W.Frag) (H : Hp) (x : V) : Bool → Prop
  | ty (h : NotTy K "list" H x) : BoxesV K H x false
  | many (l : Addr) (xs : List V) (h1 : x = .ref l) (h2 : H l = some (.lst xs)) (h3 : 400 < xs.length) : BoxesV K H x false
  | all (l : Addr) (xs : List V) (cs : List Bool) (h1 : x = .ref l) (h2 : H l = some (.lst xs)) (h3 : xs.length ≤ 400) (h4 : Paired (fun x c => BoxV K H x c) xs cs) : BoxesV K H x (cs.all id)
def spAreBoxes (K : PySem.W.Frag) : Sp := fun vs H Q _ => ∃ (x : V) (c : Bool), vs = [x] ∧ BoxesV K H x c ∧ ∀ H', Grow H H' → Q (.bl c) H'
section
variable {P : Program} {w : World} {K : PySem.W.Frag} {mg : Str → Option Value} {base : Heap}
theorem scIsBox : FnScope ["thing"] ["thing"] (defScope sIsBox) := ⟨rfl, rfl, rfl, by decide +kernel, rfl, by decide +kernel, by decide +kernel⟩
theorem ok_isBox {f f1 f2 f3 : Addr} {fd : FuncData} (F : Fun K "is_box" "is_box" sIsBox f fd) (N : Free mg) (Z : Con mg) {fd1 : FuncData} (CW : Cal P w K mg base "is_whole" 1 ["thing", "low", "high"] (spWholeA K) f1 fd1) {fd2 : FuncData} (CY : Cal P w K mg base "is_day" 2 ["thing"] (spDayA K) f2 fd2) {fd3 : FuncData} (CN : Cal P w K mg base "is_name" 2 ["thing"] (spNameA K) f3 fd3) : FnOk P w K mg base CX0 3 f fd ["thing"] (spIsBox K) := by
  obtain ⟨t1, c1⟩ := Z.lastday
  refine F.ok (k := 2) scIsBox (fun vs H Q E h => ?_) (fun cdv A outer s H vs Q E hr h => ?_)
  · obtain ⟨x, c, rfl, _⟩ := h
    rfl
  · obtain ⟨x, c, rfl, hx, q⟩ := h
    have hu := hu_of hr
    refine ⟨_, (pss_cons (ps_if (PW.pt (pw_or (pt_not (pt_val (pe_callB call_isinst (by rfl) N.isinstance PyProof.Rows.Boot.«isinstance» (pa_cons (pv 0) (pa_cons (pe_bltn (v := .ty "tuple") (by rfl) N.tuple PyProof.Rows.Boot.«tuple» rfl) pa_nil))))) (pw_or1 (pt_cmpR op_ne (pe_callB call_len_seq (by rfl) N.len PySem.boot_len (pa_cons (pv 0) pa_nil)) pe_int (nomark _))))) (pss_one (ps_ret pe_bl)) pss_nil)
      (pss_one (ps_ret (pe_and (pe_call CN.ok (hr.mono (by decide)) rfl CN.nm CN.kp CN.bd .nil pass0 (pa_cons (pe_ix ix_tup (pv 0) pe_int (fun _ _ => rfl)) pa_nil)) (pe_and (pe_call CY.ok (hr.mono (by decide)) rfl CY.nm CY.kp CY.bd .nil pass0 (pa_cons (pe_ix ix_tup (pv 0) pe_int (fun _ _ => rfl)) pa_nil)) (pe_one (pe_call CW.ok (hr.mono (by decide)) rfl CW.nm CW.kp CW.bd .nil pass0 (pa_cons (pe_ix ix_tup (pv 0) pe_int (fun _ _ => rfl)) (pa_cons (pe_ix ix_tup (pv 0) pe_int (fun _ _ => rfl)) (pa_cons (pe_glob (v := .int 399) (by rfl) c1 ⟨_, rfl⟩) pa_nil)))))))))), ?_⟩
    cases hx with
    | ty h =>
      obtain ⟨t, ty, e⟩ := h
      exact rd_seq (rd_if ⟨_, rfl, x, "tuple", _, false, rfl, ty, e, _, rfl, iteT (iteT (q _ Grow.refl))⟩)
    | len p xs h1 h2 h3 =>
      subst h1
      refine rd_seq (rd_if ⟨_, rfl, .ref p, "tuple", _, true, rfl, .tup h2, by rfl, _, rfl, iteF ⟨_, rfl, p, xs, rfl, .inr (SqT.of h2), rfl, _, rfl, ?_⟩⟩)
      rw [show (decide (V.int (xs.length : Int) = V.int 3)) = false from decide_eq_false fun e => h3 (by injection e with e; omega)]
      exact iteT (q _ Grow.refl)
    | name p x0 x1 x2 h1 h2 h3 =>
      subst h1
      refine rd_seq (rd_if ⟨_, rfl, .ref p, "tuple", _, true, rfl, .tup h2, by rfl, _, rfl, iteF ⟨_, rfl, p, _, rfl, .inr (SqT.of h2), rfl, _, rfl, iteF (rd_next ?_)⟩⟩)
      exact ⟨_, rfl, p, _, _, _, rfl, rfl, SqT.of h2, rfl, x0, false, rfl, h3, fun H' g => ⟨_, rfl, iteF (q _ g)⟩⟩
    | day p x0 x1 x2 h1 h2 h3 h4 =>
      subst h1
      refine rd_seq (rd_if ⟨_, rfl, .ref p, "tuple", _, true, rfl, .tup h2, by rfl, _, rfl, iteF ⟨_, rfl, p, _, rfl, .inr (SqT.of h2), rfl, _, rfl, iteF (rd_next ?_)⟩⟩)
      refine ⟨_, rfl, p, _, _, _, rfl, rfl, SqT.of h2, rfl, x0, true, rfl, h3, fun H' g => ⟨_, rfl, iteT ?_⟩⟩
      exact ⟨_, rfl, p, _, _, _, rfl, rfl, SqT.of (g _ _ h2), rfl, x1, false, rfl, h4.grow g, _, rfl, iteF (q _ g)⟩
    | whole p x0 x2 d c h1 h2 h3 h4 h5 h6 =>
      subst h1
      refine rd_seq (rd_if ⟨_, rfl, .ref p, "tuple", _, true, rfl, .tup h2, by rfl, _, rfl, iteF ⟨_, rfl, p, _, rfl, .inr (SqT.of h2), rfl, _, rfl, iteF (rd_next ?_)⟩⟩)
      refine ⟨_, rfl, p, _, _, _, rfl, rfl, SqT.of h2, rfl, x0, true, rfl, h3, fun H' g => ⟨_, rfl, iteT ?_⟩⟩
      refine ⟨_, rfl, p, _, _, _, rfl, rfl, SqT.of (g _ _ h2), rfl, .int d, true, rfl, .at h4 h5, _, rfl, iteT ?_⟩
      exact ⟨_, rfl, p, _, _, _, rfl, rfl, SqT.of (g _ _ h2), rfl, _, rfl, p, _, _, _, rfl, rfl, SqT.of (g _ _ h2), rfl, x2, d, 399, c, rfl, h6.grow g, q _ g⟩
end
theorem tcomp_boxes {K : PySem.W.Frag} {E : XK} {σ : St} {H : Hp} {Q : VK} {a : Addr} {xs : List V} {cs : List Bool} (e0 : σ[0]? = some (some (.ref a))) (ha : H a = some (.lst xs)) (hk : Paired (fun x c => BoxV K H x c) xs cs) (hl : xs.length ≤ 400)
    (hq : ∀ (D : Addr) (H' : Hp), H D = none → Grow H H' → H' D = some (.lst (cs.map V.bl)) → Q (.ref D) H') :
    tComp (iList K (tVar 0)) [] (fun _ H Q => Q true H) (tCall (spIsBox K) [] E (tCons (tVar 0) tNil)) σ H Q := by
  have hlen : xs.length = cs.length := Paired.length hk
  refine ⟨_, e0, a, rfl, ⟨_, SqL.of ha⟩, fun D nD => comp_list (K := K) (a := a) (xs := xs) (sub := []) (tt := fun _ H Q => Q true H) (te := tCall (spIsBox K) [] E (tCons (tVar 0) tNil)) (Q := Q) (σ := σ)
    (fun i ys H2 => ys = (cs.take i).map V.bl ∧ Grow H H2 ∧ H2 D = some (.lst ys)) ⟨rfl, Grow.new nD, upd_same⟩ (fun i ys H2 _ hh => ?_) (fun i x ys H2 hi hh => ?_) fun ys H2 hh => ?_⟩
  · exact SqL.of (hh.2.1 _ _ ha)
  · obtain ⟨rfl, g, hD⟩ := hh
    obtain ⟨c, ec, hc⟩ := paired_get hk hi
    have hil := (List.getElem?_eq_some_iff.mp hi).1
    refine iteT ⟨_, rfl, x, c, rfl, hc.grow g, fun H3 g3 => ⟨g3 _ _ hD, ?_, ?_, ?_, ?_⟩⟩
    · rw [List.length_map, List.length_take]
      exact small1000 (by omega)
    · rw [List.take_add_one, ec, List.map_append]; rfl
    · intro b o e
      rw [upd_ne (ne_of_none e nD)]
      exact g3 _ _ (g _ _ e)
    · exact upd_same
  · obtain ⟨rfl, g, hD⟩ := hh
    rw [hlen, List.take_length] at hD
    exact hq D H2 nD g hD
section
variable {P : Program} {w : World} {K : PySem.W.Frag} {mg : Str → Option Value} {base : Heap}
theorem scAreBoxes : FnScope ["thing"] ["thing"] (defScope sAreBoxes) := ⟨rfl, rfl, rfl, by decide +kernel, rfl, by decide +kernel, by decide +kernel⟩
theorem ok_areBoxes {f f1 : Addr} {fd : FuncData} (F : Fun K "are_boxes" "are_boxes" sAreBoxes f fd) (N : Free mg) (Z : Con mg) {fd1 : FuncData} (CX : Cal P w K mg base "is_box" 3 ["thing"] (spIsBox K) f1 fd1) : FnOk P w K mg base CX0 4 f fd ["thing"] (spAreBoxes K) := by
  obtain ⟨t1, c1⟩ := Z.boxes
  refine F.ok (k := 3) scAreBoxes (fun vs H Q E h => ?_) (fun cdv A outer s H vs Q E hr h => ?_)
  · obtain ⟨x, c, rfl, _⟩ := h
    rfl
  · obtain ⟨x, c, rfl, hx, q⟩ := h
    have hu := hu_of hr
    refine ⟨_, (pss_one (ps_ret (pe_and (pe_callB call_isinst (by rfl) N.isinstance PyProof.Rows.Boot.«isinstance» (pa_cons (pv 0) (pa_cons (pe_bltn (v := .ty "list") (by rfl) N.list PyProof.Rows.Boot.«list» rfl) pa_nil))) (pe_and (pe_cmpR op_le (pe_callB call_len_seq (by rfl) N.len PySem.boot_len (pa_cons (pv 0) pa_nil)) (pe_glob (v := .int 400) (by rfl) c1 ⟨_, rfl⟩) (nomark _)) (pe_one (pe_callB (call_allB rfl) (by rfl) N.all PyProof.Rows.Boot.«all» (pa_cons (pe_of (pec_compN rfl (pi_list (pv 0)) rfl rfl (by show ∀ p ∈ _, CapN [] p; decide) (by decide) rfl (by show ([Str.ofString "box"] : List Str).Nodup; decide) .nil (fun C fp s H => pts_nil) (fun C fp s H => (pe_call CX.ok (hr.mono (by decide)) rfl CX.nm CX.kp CX.bd .nil pass0 (pa_cons (pv 0) pa_nil))))) pa_nil))))))), ?_⟩
    cases hx with
    | ty h =>
      obtain ⟨t, ty, e⟩ := h
      exact ⟨_, rfl, x, "list", _, false, rfl, ty, e, _, rfl, iteF (q _ Grow.refl)⟩
    | many l xs h1 h2 h3 =>
      subst h1
      refine ⟨_, rfl, .ref l, "list", _, true, rfl, .lst h2, by rfl, _, rfl, iteT ⟨_, rfl, l, xs, rfl, .inl (SqL.of h2), _, _, rfl, rfl, _, rfl, ?_⟩⟩
      rw [decide_eq_false (by omega)]
      exact iteF (q _ Grow.refl)
    | all l xs cs h1 h2 h3 h4 =>
      subst h1
      refine ⟨_, rfl, .ref l, "list", _, true, rfl, .lst h2, by rfl, _, rfl, iteT ⟨_, rfl, l, xs, rfl, .inl (SqL.of h2), _, _, rfl, rfl, _, rfl, ?_⟩⟩
      rw [decide_eq_true (by omega)]
      refine iteT (rd_cb (rd_cons (tcomp_boxes rfl h2 h4 h3 ?_)))
      intro D H' nD g hD
      exact ⟨D, cs, rfl, SqL.of hD, q _ g⟩
end
end Mine
namespace L2
open PySem PySem.Spec PyProof.Rows
theorem if_p (a : IA) : (iflds a).lookup ("placed" : Str) = some (.ref a.p) := rfl
theorem if_s (a : IA) : (iflds a).lookup ("standing" : Str) = some (.ref a.s) := by
  unfold iflds
  rw [List.lookup_cons, ne_s (by decide +kernel)]
  rfl
theorem if_w (a : IA) : (iflds a).lookup ("weights" : Str) = some (.ref a.w) := by
  unfold iflds
  rw [List.lookup_cons, ne_s (by decide +kernel), List.lookup_cons, ne_s (by decide +kernel)]
  rfl
theorem if_no (a : IA) {m : Str} (h1 : decide (m = "placed") = false) (h2 : decide (m = "standing") = false) (h3 : decide (m = "weights") = false) : (iflds a).lookup m = none := by
  unfold iflds
  rw [List.lookup_cons, ne_s h1, List.lookup_cons, ne_s h2, List.lookup_cons, ne_s h3]
  rfl
theorem if_put (a : IA) : putF "weights" (.ref a.w) (putF "standing" (.ref a.s) (putF "placed" (.ref a.p) [])) = iflds a := by
  have e1 : ¬ (("placed" : Str) = "standing") := by decide +kernel
  have e2 : ¬ (("placed" : Str) = "weights") := by decide +kernel
  have e3 : ¬ (("standing" : Str) = "weights") := by decide +kernel
  simp only [putF, iflds, e1, e2, e3, if_false]
structure IxC (K : PySem.W.Frag) (C : Addr) : Prop where
  cl : Cls K C
  n1 : NoAttr K C "placed"
  n2 : NoAttr K C "standing"
  n3 : NoAttr K C "weights"
theorem wtV_get (c : Nat) : (wtV c).getD (.int 0) = .int (c : Int) := by
  unfold wtV
  by_cases h : c = 0
  · rw [if_pos h, h]; rfl
  · rw [if_neg h]; rfl
theorem WAt.up {H' : Hp} {w : Addr} {g g' : Str → Int → Nat} {m : Nat} {ws : List (List Key × V)} {k : Str} {n : Int} (hl : ws.length ≤ m) (hv : ∀ k n, valV ws (kk k n) = wtV (g k n)) (e : H' w = some (.dT (putK ws (kk k n) (.int ((g k n : Nat) + 1 : Int))))) (g1 : g' k n = g k n + 1) (g2 : ∀ k' n', ¬ (k' = k ∧ n' = n) → g' k' n' = g k' n') : WAt H' w g' (m + 1) := by
  refine ⟨_, e, by have := length_putK ws (kk k n) (.int ((g k n : Nat) + 1 : Int)); omega, fun k' n' => ?_⟩
  rw [valV_put]
  by_cases h : kk k' n' = kk k n
  · obtain ⟨rfl, rfl⟩ := kk_inj h
    rw [if_pos rfl, g1, wtV_pos (Nat.succ_pos _)]
    rfl
  · rw [if_neg h, hv, g2 k' n' (fun z => h (by rw [z.1, z.2]))]
theorem length_putK_in {κ : Type} [DecidableEq κ] {ws : List (κ × V)} {k : κ} {v y : V} (h : valV ws k = some v) : (putK ws k y).length = ws.length := by
  unfold putK
  rw [if_pos (by rw [valV_any, h]; rfl), List.length_map]
theorem WAt.down {H' : Hp} {w : Addr} {g g' : Str → Int → Nat} {m : Nat} {ws : List (List Key × V)} {k : Str} {n : Int} (hl : ws.length ≤ m) (hv : ∀ k n, valV ws (kk k n) = wtV (g k n)) (e : H' w = some (.dT (putK ws (kk k n) (.int ((g k n : Nat) - 1 : Int))))) (h0 : 1 < g k n) (g1 : g' k n = g k n - 1) (g2 : ∀ k' n', ¬ (k' = k ∧ n' = n) → g' k' n' = g k' n') : WAt H' w g' m := by
  refine ⟨_, e, by rw [length_putK_in ((hv k n).trans (wtV_pos (by omega)))]; exact hl, fun k' n' => ?_⟩
  rw [valV_put]
  by_cases h : kk k' n' = kk k n
  · obtain ⟨rfl, rfl⟩ := kk_inj h
    rw [if_pos rfl, g1, wtV_pos (by omega)]
    congr 2
    omega
  · rw [if_neg h, hv, g2 k' n' (fun z => h (by rw [z.1, z.2]))]
theorem WAt.gone {H' : Hp} {w : Addr} {g g' : Str → Int → Nat} {m : Nat} {ws : List (List Key × V)} {k : Str} {n : Int} {y : V} (hl : ws.length ≤ m) (hv : ∀ k n, valV ws (kk k n) = wtV (g k n)) (e : H' w = some (.dT (dropK (putK ws (kk k n) y) (kk k n)))) (h0 : 0 < g k n) (g1 : g' k n = 0) (g2 : ∀ k' n', ¬ (k' = k ∧ n' = n) → g' k' n' = g k' n') : WAt H' w g' m := by
  refine ⟨_, e, Nat.le_trans (dropK_le _ _) (by rw [length_putK_in ((hv k n).trans (wtV_pos h0))]; exact hl), fun k' n' => ?_⟩
  rw [valV_drop]
  by_cases h : kk k' n' = kk k n
  · obtain ⟨rfl, rfl⟩ := kk_inj h
    rw [if_pos rfl, g1]; rfl
  · rw [if_neg h, valV_put, if_neg h, hv, g2 k' n' (fun z => h (by rw [z.1, z.2]))]
theorem count_take {xs : List Int} {i : Nat} {n : Int} (h : xs[i]? = some n) (m : Int) : (xs.take (i + 1)).count m = (xs.take i).count m + if m = n then 1 else 0 := by
  rw [List.take_add_one, h, List.count_append]
  by_cases e : m = n
  · subst e; rw [if_pos rfl]; simp
  · rw [if_neg e]
    simp only [Option.toList_some]
    rw [List.count_singleton, if_neg (by simpa using fun z => e z.symm)]
theorem count_drop {xs : List Int} {i : Nat} {n : Int} (h : xs[i]? = some n) (m : Int) : (xs.drop i).count m = (xs.drop (i + 1)).count m + if m = n then 1 else 0 := by
  have hi := (List.getElem?_eq_some_iff.mp h)
  rw [List.drop_eq_getElem_cons hi.1, hi.2, List.count_cons]
  by_cases e : m = n
  · subst e; simp
  · rw [if_neg e, if_neg (by simpa using fun z => e z.symm)]
theorem WAt.mono {H H' : Hp} {w : Addr} {g g' : Str → Int → Nat} {m m' : Nat} (h : WAt H w g m) (e : ∀ u, H w = some u → H' w = some u) (hg : ∀ k n, g' k n = g k n) (hm : m ≤ m') : WAt H' w g' m' := by
  obtain ⟨ws, e1, e2, e3⟩ := h.ex
  exact ⟨ws, e _ e1, by omega, fun k n => by rw [hg]; exact e3 k n⟩
theorem RowsAt.row {H : Hp} {M : Addr → Prop} {v : V} {rs : List RwB} (h : RowsAt H M (some v) rs) : ∃ ra ps qs, v = .ref ra ∧ M ra ∧ H ra = some (.lst (ps.map V.ref)) ∧ RowB H ps qs ∧ qs.Perm rs ∧ rs ≠ [] := by
  cases h with
  | no h1 h2 => cases h1
  | yes ra ps qs h1 h2 h3 h4 h5 h6 => exact ⟨ra, ps, qs, Option.some.inj h1, h2, h3, h4, h5, h6⟩
structure WB (H H2 : Hp) (a : IA) : Prop where
  kp : ∀ b u, H b = some u → b ≠ a.w → H2 b = some u
theorem WB.tup {H H2 : Hp} {a : IA} {M : Addr → Prop} {L : List OB} {N : Nat} (g : WB H H2 a) (h : WS H a M L N) : ∀ b x, H b = some (.tup x) → H2 b = some (.tup x) := fun b x e => g.kp b _ e fun z => by
  obtain ⟨ws, e1, _⟩ := h.hw.ex
  rw [z, e1] at e; cases e
theorem WB.lst {H H2 : Hp} {a : IA} {M : Addr → Prop} {L : List OB} {N : Nat} (g : WB H H2 a) (h : WS H a M L N) : ∀ b x, H b = some (.lst x) → H2 b = some (.lst x) := fun b x e => g.kp b _ e fun z => by
  obtain ⟨ws, e1, _⟩ := h.hw.ex
  rw [z, e1] at e; cases e
theorem WB.std {H H2 : Hp} {a : IA} {M : Addr → Prop} {L : List OB} {N : Nat} (g : WB H H2 a) (h : WS H a M L N) : ∃ ss, H2 a.s = some (.dT ss) ∧ ss.length ≤ N ∧ (∀ k n, RowsAt H2 M (valV ss (kk k n)) (stL L k n)) ∧ ∀ k n k' n' ra, valV ss (kk k n) = some (.ref ra) → valV ss (kk k' n') = some (.ref ra) → k = k' ∧ n = n' := by
  obtain ⟨ss, s1, s2, s3, s4⟩ := h.hs.ex
  exact ⟨ss, g.kp _ _ s1 h.sw, s2, fun k n => (s3 k n).mono (fun _ z => z) (fun b x _ _ e => g.lst h b x e) (g.tup h), s4⟩
theorem WB.mt {H H2 : Hp} {a : IA} {M : Addr → Prop} {L : List OB} {N : Nat} {gg : Str → Int → Nat} {m : Nat} (g : WB H H2 a) (h : WS H a M L N) (hw : WAt H2 a.w gg m) : ∀ b, M b → (∃ x, H2 b = some (.dT x)) ∨ ∃ x, H2 b = some (.lst x) := fun b hb => by
  by_cases e : b = a.w
  · obtain ⟨ws, e1, _⟩ := hw.ex
    exact .inl ⟨ws, by rw [e]; exact e1⟩
  · rcases h.mt b hb with ⟨x, q⟩ | ⟨x, q⟩
    · exact .inl ⟨x, g.kp _ _ q e⟩
    · exact .inr ⟨x, g.kp _ _ q e⟩
theorem wt_new {L : List OB} {o k : Str} {f l : Int} (k' : Str) (n : Int) : wt ((o, k, f, l) :: L) k' n = wt L k' n + if k' = k then (Kn.way f l).count n else 0 := by
  rw [wt_cons, Nat.add_comm]
  congr 1
  show (if k = k' then _ else _) = _
  by_cases e : k' = k
  · rw [if_pos e, if_pos e.symm]
  · rw [if_neg e, if_neg (fun z => e z.symm)]
theorem WS.placeT {H H2 H5 : Hp} {a : IA} {M : Addr → Prop} {L : List OB} {N : Nat} {o k : Str} {f l : Int} {ra u : Addr} {ps : List Addr} {ss : List (List Key × V)} (h : WS H a M L N) (hN : N < 100000) (g : WB H H2 a)
    (hw : WAt H2 a.w (fun k' n => wt L k' n + if k' = k then (Kn.way f l).count n else 0) (9 * N + 9)) (es : H2 a.s = some (.dT ss)) (ev : valV ss (kk k (knot f l)) = some (.ref ra)) (er : H2 ra = some (.lst (ps.map V.ref)))
    (k5 : ∀ b v, H2 b = some v → b ≠ ra → H5 b = some v) (e5 : H5 ra = some (.lst ((ps ++ [u]).map V.ref))) (eu : H5 u = some (.tup (rowB (o, f, l)))) : WS H5 a M ((o, k, f, l) :: L) (N + 1) := by
  obtain ⟨ss', es', sl, sr, si⟩ := g.std h
  rw [es] at es'
  injection es' with es'
  injection es' with es'
  subst es'
  have rr := sr k (knot f l)
  rw [ev] at rr
  obtain ⟨ra', ps', qs, z1, z2, z3, z4, z5, z6⟩ := rr.row
  injection z1 with z1
  subst z1
  rw [er] at z3
  have z3 : ps = ps' := by
    injection z3 with z3
    injection z3 with z3
    have : ps.map V.ref = ps'.map V.ref := z3
    exact (List.map_inj_right (fun x y e => by injection e)).mp this
  subst z3
  have nw : a.w ≠ ra := fun z => by
    obtain ⟨ws, e1, _⟩ := hw.ex
    rw [z, er] at e1; cases e1
  have ns : a.s ≠ ra := fun z => by rw [z, er] at es; cases es
  have ntup : ∀ b x, H2 b = some (.tup x) → H5 b = some (.tup x) := fun b x e => k5 b _ e fun z => by rw [z, er] at e; cases e
  refine ⟨hw.mono (fun v e => k5 _ _ e nw) (fun k' n => wt_new k' n) (by omega), ?_, h.sw, h.ms, h.mw, fun b hb => ?_, by rw [List.length_cons]; have := h.ln; omega, hN⟩
  · refine (StA.add (H := H2) (H' := H5) (M := M) (M' := M) (g := stL L) (t := u) (qs := qs) (r := (o, f, l)) sr si (Nat.le_succ_of_le sl) ev z2 (fun _ z => z) (k5 _ _ es ns) e5 ?_ z5 (fun b x hb _ e => k5 _ _ e hb) ntup ?_ fun k' n' hne => ?_ : StA H5 a.s M (stL ((o, k, f, l) :: L)) (N + 1))
    · exact paired_snoc (Paired.mapP z4 fun _ _ e => ntup _ _ e) eu
    · exact stL_pos ⟨rfl, rfl⟩
    · exact stL_neg fun z => hne ⟨z.1.symm, z.2.symm⟩
  · by_cases e : b = ra
    · exact .inr ⟨_, by rw [e]; exact e5⟩
    · rcases g.mt h hw b hb with ⟨x, q⟩ | ⟨x, q⟩
      · exact .inl ⟨x, k5 _ _ q e⟩
      · exact .inr ⟨x, k5 _ _ q e⟩
theorem WS.placeN {H H2 H5 : Hp} {a : IA} {M : Addr → Prop} {L : List OB} {N : Nat} {o k : Str} {f l : Int} {r u : Addr} {ss : List (List Key × V)} (h : WS H a M L N) (hN : N < 100000) (g : WB H H2 a)
    (hw : WAt H2 a.w (fun k' n => wt L k' n + if k' = k then (Kn.way f l).count n else 0) (9 * N + 9)) (es : H2 a.s = some (.dT ss)) (ev : valV ss (kk k (knot f l)) = none) (nr : H2 r = none)
    (k5 : ∀ b v, H2 b = some v → b ≠ a.s → H5 b = some v) (e5 : H5 a.s = some (.dT (putK ss (kk k (knot f l)) (.ref r)))) (er : H5 r = some (.lst [.ref u])) (eu : H5 u = some (.tup (rowB (o, f, l)))) : WS H5 a (fun b => M b ∨ b = r) ((o, k, f, l) :: L) (N + 1) := by
  obtain ⟨ss', es', sl, sr, si⟩ := g.std h
  rw [es] at es'
  injection es' with es'
  injection es' with es'
  subst es'
  have hnil : stL L k (knot f l) = [] := by
    cases sr k (knot f l) with
    | no h1 h2 => exact h2
    | yes ra ps qs h1 h2 h3 h4 h5 h6 => rw [ev] at h1; cases h1
  have nosr : ∀ k' n', valV ss (kk k' n') ≠ some (.ref r) := fun k' n' e => by
    have rr := sr k' n'
    rw [e] at rr
    obtain ⟨ra', ps', qs, z1, z2, z3, _⟩ := rr.row
    injection z1 with z1
    rw [← z1, nr] at z3
    cases z3
  have ntup : ∀ b x, H2 b = some (.tup x) → H5 b = some (.tup x) := fun b x e => k5 b _ e fun z => by rw [z, es] at e; cases e
  have nlst : ∀ b x, H2 b = some (.lst x) → H5 b = some (.lst x) := fun b x e => k5 b _ e fun z => by rw [z, es] at e; cases e
  have nsw : a.w ≠ a.s := fun z => h.sw z.symm
  refine ⟨hw.mono (fun v e => k5 _ _ e nsw) (fun k' n => wt_new k' n) (by omega), ⟨_, e5, ?_, fun k' n' => ?_, fun k1 n1 k2 n2 ra q1 q2 => ?_⟩, h.sw, .inl h.ms, .inl h.mw, fun b hb => ?_, by rw [List.length_cons]; have := h.ln; omega, hN⟩
  · have := length_putK ss (kk k (knot f l)) (.ref r)
    omega
  · rw [valV_put]
    by_cases e : kk k' n' = kk k (knot f l)
    · obtain ⟨rfl, rfl⟩ := kk_inj e
      rw [if_pos rfl, stL_pos (show atK (o, k', f, l) k' (knot f l) from ⟨rfl, rfl⟩), hnil]
      exact .yes r [u] [(o, f, l)] rfl (.inr rfl) er (.cons eu .nil) (List.Perm.refl _) (by simp)
    · rw [if_neg e, stL_neg (fun z => e (by rw [← z.1, ← z.2]))]
      exact (sr k' n').mono (fun _ z => .inl z) (fun b x _ _ q => nlst b x q) ntup
  · rw [valV_put] at q1 q2
    by_cases c1 : kk k1 n1 = kk k (knot f l)
    · rw [if_pos c1] at q1
      by_cases c2 : kk k2 n2 = kk k (knot f l)
      · exact kk_inj (c1.trans c2.symm)
      · rw [if_neg c2] at q2
        injection q1 with q1
        rw [← q1] at q2
        exact absurd q2 (nosr k2 n2)
    · rw [if_neg c1] at q1
      by_cases c2 : kk k2 n2 = kk k (knot f l)
      · rw [if_pos c2] at q2
        injection q2 with q2
        rw [← q2] at q1
        exact absurd q1 (nosr k1 n1)
      · rw [if_neg c2] at q2
        exact si _ _ _ _ _ q1 q2
  · rcases hb with hb | rfl
    · by_cases e : b = a.s
      · exact .inl ⟨_, by rw [e]; exact e5⟩
      · rcases g.mt h hw b hb with ⟨x, q⟩ | ⟨x, q⟩
        · exact .inl ⟨x, k5 _ _ q e⟩
        · exact .inr ⟨x, k5 _ _ q e⟩
    · exact .inr ⟨_, er⟩
end L2
namespace L2
open PySem PySem.Spec PyProof.Rows
theorem first_at {r : RwB} : ∀ {qs : List RwB}, r ∈ qs → ∃ j, qs[j]? = some r ∧ (∀ m, m < j → qs[m]? ≠ some r) ∧ qs.Perm (r :: qs.eraseIdx j)
  | [], h => nomatch h
  | q :: qs, h => by
    by_cases e : q = r
    · subst e
      exact ⟨0, rfl, fun m hm => absurd hm (Nat.not_lt_zero _), List.Perm.refl _⟩
    · have hm : r ∈ qs := (List.mem_cons.mp h).resolve_left fun z => e z.symm
      obtain ⟨j, h1, h2, h3⟩ := first_at hm
      refine ⟨j + 1, by simpa using h1, fun m hm => ?_, ?_⟩
      · cases m with
        | zero => simpa using e
        | succ m => simpa using h2 m (Nat.lt_of_succ_lt_succ hm)
      · rw [List.eraseIdx_cons_succ]
        exact (h3.cons q).trans (List.Perm.swap r q _)
theorem paired_erase {α β : Type} {F : α → β → Prop} : ∀ {xs : List α} {ys : List β}, Paired F xs ys → ∀ j, Paired F (xs.eraseIdx j) (ys.eraseIdx j)
  | _, _, .nil, _ => .nil
  | _, _, .cons a t, 0 => t
  | _, _, .cons a t, j + 1 => .cons a (paired_erase t j)
theorem way_lastI (f l : Int) : atI ((Kn.way f l).map V.int) (-1) = some (.int (knot f l)) := by
  have hw := way_last f l
  obtain ⟨xs, x, e⟩ : ∃ xs x, Kn.way f l = xs ++ [x] := ⟨_, _, (List.dropLast_concat_getLast (way_ne f l)).symm⟩
  rw [e, List.length_append, List.length_singleton, Nat.add_sub_cancel, List.getElem?_append_right (Nat.le_refl _), Nat.sub_self] at hw
  have hw : x = knot f l := Option.some.inj hw
  rw [e, List.map_append, hw]
  exact atI_snoc _ _
theorem WS.removeT {H H2 H5 : Hp} {a : IA} {M : Addr → Prop} {L : List OB} {N : Nat} {o k : Str} {f l : Int} {ra : Addr} {ps : List Addr} {qs : List RwB} {ss : List (List Key × V)} (h : WS H a M ((o, k, f, l) :: L) N) (g : WB H H2 a)
    (hw : WAt H2 a.w (wt L) (9 * N)) (es : H2 a.s = some (.dT ss)) (ev : valV ss (kk k (knot f l)) = some (.ref ra)) (mra : M ra) (era : ∃ x, H2 ra = some (.lst x))
    (k5 : ∀ b v, H2 b = some v → b ≠ ra → H5 b = some v) (e5 : H5 ra = some (.lst (ps.map V.ref))) (hq : RowB H5 ps qs) (hp : qs.Perm (stL L k (knot f l))) (hne : stL L k (knot f l) ≠ []) : WS H5 a M L N := by
  obtain ⟨ss', es', sl, sr, si⟩ := g.std h
  rw [es] at es'
  injection es' with es'
  injection es' with es'
  subst es'
  obtain ⟨x0, era⟩ := era
  have nw : a.w ≠ ra := fun z => by
    obtain ⟨ws, e1, _⟩ := hw.ex
    rw [z, era] at e1; cases e1
  have ns : a.s ≠ ra := fun z => by rw [z, era] at es; cases es
  have ntup : ∀ b x, H2 b = some (.tup x) → H5 b = some (.tup x) := fun b x e => k5 b _ e fun z => by rw [z, era] at e; cases e
  refine ⟨hw.mono (fun v e => k5 _ _ e nw) (fun _ _ => rfl) (Nat.le_refl _), ⟨ss, k5 _ _ es ns, sl, fun k' n' => ?_, si⟩, h.sw, h.ms, h.mw, fun b hb => ?_, by have := h.ln; rw [List.length_cons] at this; omega, h.nn⟩
  · by_cases e : k' = k ∧ n' = knot f l
    · obtain ⟨rfl, rfl⟩ := e
      exact .yes ra ps qs ev mra e5 hq hp hne
    · have rr := sr k' n'
      rw [stL_neg (fun z => e ⟨z.1.symm, z.2.symm⟩)] at rr
      exact rr.mono (fun _ z => z) (fun b x eb _ q => k5 _ _ q fun z => e (by subst z; exact si _ _ _ _ _ eb ev)) ntup
  · by_cases e : b = ra
    · exact .inr ⟨_, by rw [e]; exact e5⟩
    · rcases g.mt h hw b hb with ⟨x, q⟩ | ⟨x, q⟩
      · exact .inl ⟨x, k5 _ _ q e⟩
      · exact .inr ⟨x, k5 _ _ q e⟩
theorem WS.removeN {H H2 H5 : Hp} {a : IA} {M : Addr → Prop} {L : List OB} {N : Nat} {o k : Str} {f l : Int} {ra : Addr} {ss : List (List Key × V)} (h : WS H a M ((o, k, f, l) :: L) N) (g : WB H H2 a)
    (hw : WAt H2 a.w (wt L) (9 * N)) (es : H2 a.s = some (.dT ss)) (ev : valV ss (kk k (knot f l)) = some (.ref ra)) (era : ∃ x, H2 ra = some (.lst x))
    (k5 : ∀ b v, H2 b = some v → b ≠ ra → b ≠ a.s → H5 b = some v) (e5 : H5 ra = some (.lst [])) (e6 : H5 a.s = some (.dT (dropK ss (kk k (knot f l))))) (hne : stL L k (knot f l) = []) : WS H5 a M L N := by
  obtain ⟨ss', es', sl, sr, si⟩ := g.std h
  rw [es] at es'
  injection es' with es'
  injection es' with es'
  subst es'
  obtain ⟨x0, era⟩ := era
  have nw : a.w ≠ ra := fun z => by
    obtain ⟨ws, e1, _⟩ := hw.ex
    rw [z, era] at e1; cases e1
  have nsw : a.w ≠ a.s := fun z => h.sw z.symm
  have ntup : ∀ b x, H2 b = some (.tup x) → H5 b = some (.tup x) := fun b x e => k5 b _ e (fun z => by rw [z, era] at e; cases e) fun z => by rw [z, es] at e; cases e
  refine ⟨hw.mono (fun v e => k5 _ _ e nw nsw) (fun _ _ => rfl) (Nat.le_refl _), ⟨_, e6, Nat.le_trans (dropK_le _ _) sl, fun k' n' => ?_, fun k1 n1 k2 n2 ra q1 q2 => ?_⟩, h.sw, h.ms, h.mw, fun b hb => ?_, by have := h.ln; rw [List.length_cons] at this; omega, h.nn⟩
  · rw [valV_drop]
    by_cases e : kk k' n' = kk k (knot f l)
    · obtain ⟨rfl, rfl⟩ := kk_inj e
      rw [if_pos rfl]
      exact .no rfl hne
    · have rr := sr k' n'
      rw [stL_neg (fun z => e (by rw [← z.1, ← z.2]))] at rr
      rw [if_neg e]
      refine rr.mono (fun _ z => z) (fun b x eb _ q => k5 _ _ q (fun z => e ?_) fun z => by rw [z, es] at q; cases q) ntup
      subst z
      obtain ⟨q1, q2⟩ := si _ _ _ _ _ eb ev
      rw [q1, q2]
  · rw [valV_drop] at q1 q2
    split at q1
    · cases q1
    · split at q2
      · cases q2
      · exact si _ _ _ _ _ q1 q2
  · by_cases e : b = ra
    · exact .inr ⟨_, by rw [e]; exact e5⟩
    · by_cases e' : b = a.s
      · exact .inl ⟨_, by rw [e']; exact e6⟩
      · rcases g.mt h hw b hb with ⟨x, q⟩ | ⟨x, q⟩
        · exact .inl ⟨x, k5 _ _ q e e'⟩
        · exact .inr ⟨x, k5 _ _ q e e'⟩
theorem valV_putS {κ : Type} [DecidableEq κ] (kvs : List (κ × V)) (k : κ) (y : V) : valV (putK kvs k y) k = some y := by rw [valV_put, if_pos rfl]
theorem keepN {H : Hp} {t : Addr} {v : HO} (n : H t = none) : ∀ b u, H b = some u → upd H t v b = some u := fun b u e => by rw [upd_ne (ne_of_none e n)]; exact e
end L2
namespace Mine
open PySem L2
abbrev sInit : Stmt := inClass (top 20) 0
abbrev sPut : Stmt := inClass (top 20) 1
abbrev sTake : Stmt := inClass (top 20) 2
abbrev sMeeting : Stmt := inClass (top 20) 5
abbrev sPutAll : Stmt := inClass (top 20) 6
abbrev sHasO : Stmt := inClass (top 20) 7
abbrev sPlace : Stmt := inClass (top 20) 8
abbrev sRemove : Stmt := inClass (top 20) 9
abbrev sLooked : Stmt := inClass (top 20) 10
def spPlace (C : Addr) : Sp := fun vs H Q _ => ∃ (p : Addr) (a : IA) (M : Addr → Prop) (L : List OB) (N : Nat) (o k : Str) (f l : Int), vs = [.ref p, .str o, .str k, .int f, .int l] ∧ (∃ dx, H p = some (.ins C dx (iflds a))) ∧ WS H a M L N ∧ N < 100000 ∧ 0 ≤ f ∧ f ≤ l ∧ l < 400 ∧
  ∀ (H' : Hp) (M' : Addr → Prop), Fr2 H H' M M' → WS H' a M' ((o, k, f, l) :: L) (N + 1) → Q .non H'
def spRemove (C : Addr) : Sp := fun vs H Q _ => ∃ (p : Addr) (a : IA) (M : Addr → Prop) (L : List OB) (N : Nat) (o k : Str) (f l : Int), vs = [.ref p, .str o, .str k, .int f, .int l] ∧ (∃ dx, H p = some (.ins C dx (iflds a))) ∧ WS H a M ((o, k, f, l) :: L) N ∧ 0 ≤ f ∧ f ≤ l ∧ l < 400 ∧
  ∀ (H' : Hp) (M' : Addr → Prop), Fr2 H H' M M' → WS H' a M' L N → Q .non H'
inductive PlI (H1 : Hp) (a : IA) (p lw : Addr) (o k : Str) (f l : Int) (g : Nat → Str → Int → Nat) (m : Nat → Nat) (w8 : Option V → St) (i : Nat) (σ : St) (H2 : Hp) : Prop
  | mk (v6 : Option V) (h1 : σ = w8 v6) (h2 : ∀ b u, H1 b = some u → b ≠ a.w → H2 b = some u) (h3 : WAt H2 a.w (g i) (m i)) : PlI H1 a p lw o k f l g m w8 i σ H2
section
variable {P : Program} {w : World} {K : PySem.W.Frag} {mg : Str → Option Value} {base : Heap}
theorem scPlace : FnScope ["self", "owner", "key", "first", "last", "way", "knot"] ["self", "owner", "key", "first", "last"] (defScope sPlace) := ⟨rfl, rfl, rfl, by decide +kernel, rfl, by decide +kernel, by decide +kernel⟩
theorem ok_place {f f1 C : Addr} {fd : FuncData} (F : Fun K "place_box" "Index.place_box" sPlace f fd) (T : IxC K C) {fd1 : FuncData} (CY : Cal P w K mg base "way_to" 2 ["first", "last"] spWay f1 fd1) : FnOk P w K mg base CX0 3 f fd ["self", "owner", "key", "first", "last"] (spPlace C) := by
  refine F.ok (k := 2) scPlace (fun vs H Q E h => ?_) (fun cdv A outer s H vs Q E hr h => ?_)
  · obtain ⟨p, a, M, L, N, o, k, f, l, rfl, _⟩ := h
    rfl
  · obtain ⟨p, a, M, L, N, o, k, f, l, rfl, ⟨dx, ho⟩, h, hN, h0, h1, h2, q⟩ := h
    have hu := hu_of hr
    refine ⟨_, (pss_cons (ps_set (i := 5) scPlace.nd rfl (Or.inl rfl) (pe_call CY.ok (hr.mono (by decide)) rfl CY.nm CY.kp CY.bd .nil pass0 (pa_cons (pv 3) (pa_cons (pv 4) pa_nil))))
      (pss_cons (ps_for PassesOwn.never rfl (pi_list (pv 5)) (pg_name (i := 6) scPlace.nd rfl (Or.inl rfl))
      (pss_one (ps_dput hu (pe_fld (pv 0) rfl) (pe_tup (pa_cons (pv 2) (pa_cons (pv 6) pa_nil))) (pe_op op_add (pe_dget2 hu (pe_fld (pv 0) rfl) (pe_tup (pa_cons (pv 2) (pa_cons (pv 6) pa_nil))) pe_int ⟨rfl, rfl, rfl, rfl⟩) pe_int) rfl)))
      (pss_one (ps_expr (pe_bm PySem.F.plainAttrs_list PySem.F.slot_list_append PySem.F.type_list_append mt_append (pe_dsetT hu (pe_fld (pv 0) rfl) (pe_tup (pa_cons (pv 2) (pa_cons (pe_ix ix_list (pv 5) (pe_un un_neg pe_int) (fun _ _ => rfl)) pa_nil))) (pe_lst pa_nil) ⟨rfl, rfl, rfl, rfl⟩) (pa_cons (pe_tup (pa_cons (pv 1) (pa_cons (pv 3) (pa_cons (pv 4) pa_nil)))) pa_nil)))))), ?_⟩
    refine rd_seq (rd_asg ⟨_, rfl, _, rfl, f, l, rfl, h0, h1, h2, fun lw H1 nlw g1 ew => ?_⟩)
    dsimp only [gName]
    have hW1 := h.grow g1
    have ho1 := g1 _ _ ho
    obtain ⟨ws0, ew0, lw0, vw0⟩ := hW1.hw.ex
    have hlw : lw ≠ a.w := ne_of ew ew0 (fun z => nomatch z)
    refine rd_seq ⟨_, rfl, lw, rfl, ⟨_, SqL.of ew⟩, for_list (K := K) (a := lw) (xs := (Kn.way f l).map V.int)
      (PlI H1 a p lw o k f l (fun i k' n => wt L k' n + if k' = k then ((Kn.way f l).take i).count n else 0) (fun i => 9 * N + i) (fun v6 => [some (.ref p), some (.str o), some (.str k), some (.int f), some (.int l), some (.ref lw), v6])) ⟨none, rfl, fun _ _ e _ => e, ws0, ew0, lw0, fun k' n => ?_⟩
      (fun i σ H2 _ hh => ?_) (fun i x σ H2 hi hh => ?_) fun σ H2 hh => ?_⟩
    · rw [vw0, List.take_zero, List.count_nil]
      congr 1
      split <;> rfl
    · obtain ⟨v6, rfl, e2, e3⟩ := hh
      exact SqL.of (e2 _ _ ew hlw)
    · obtain ⟨v6, rfl, e2, ⟨ws, ew2, lw2, vw2⟩⟩ := hh
      rw [List.getElem?_map] at hi
      cases en : (Kn.way f l)[i]? with
      | none => rw [en] at hi; cases hi
      | some n =>
        rw [en] at hi
        cases hi
        have hil := (List.getElem?_eq_some_iff.mp en).1
        have h9 := way_len f l
        have hpw : p ≠ a.w := ne_of ho1 ew0 (fun z => nomatch z)
        have ho2 := e2 _ _ ho1 hpw
        refine ⟨_, rfl, p, C, dx, _, _, rfl, ho2, T.cl, T.n3, if_w a, a.w, rfl, .inr ⟨ws, .inl ew2⟩, _, rfl, _, rfl, by show 2 ≤ sizeLine; decide, fun t nt => ?_⟩
        have ht : a.w ≠ t := ne_of_none ew2 nt
        have hpt : p ≠ t := ne_of_none ho2 nt
        refine ⟨_, DGet.t (kvs := ws) (k := kk k n) (by rw [upd_ne ht]; exact ew2) upd_same, ?_⟩
        rw [vw2, wtV_get]
        refine ⟨_, _, rfl, rfl, _, rfl, p, C, dx, _, _, rfl, (by rw [upd_ne hpt]; exact ho2), T.cl, T.n3, if_w a, _, rfl, _, rfl, by show 2 ≤ sizeLine; decide, fun t2 nt2 => ?_⟩
        have ht2 : a.w ≠ t2 := ne_of_none (H := upd H2 t (.tup ((kk k n).map kV))) (by rw [upd_ne ht]; exact ew2) nt2
        refine ⟨a.w, _, rfl, DPut.t (kvs := ws) (k := kk k n) (by rw [upd_ne ht2, upd_ne ht]; exact ew2) upd_same (by rw [sizeLine_eq]; omega), _, rfl, fun b u e hb => ?_, ?_⟩
        · have := e2 b u e hb
          have hbt := ne_of_none this nt
          rw [upd_ne hb, upd_ne (ne_of_none (H := upd H2 t (.tup ((kk k n).map kV))) (by rw [upd_ne hbt]; exact this) nt2), upd_ne hbt]
          exact this
        · refine WAt.up (k := k) (n := n) lw2 vw2 upd_same ?_ fun k' n' hne => ?_
          · simp only [if_true]
            rw [count_take en, if_pos rfl]
            omega
          · by_cases ek : k' = k
            · rw [if_pos ek, if_pos ek, count_take en, if_neg (fun z => hne ⟨ek, z⟩), Nat.add_zero]
            · rw [if_neg ek, if_neg ek]
    · obtain ⟨v6, rfl, e2, e3⟩ := hh
      rw [List.length_map, List.take_length] at e3
      have h9 := way_len f l
      have gB : WB H1 H2 a := ⟨e2⟩
      have hpw : p ≠ a.w := ne_of ho1 ew0 (fun z => nomatch z)
      have ho2 := e2 _ _ ho1 hpw
      have ew2 := e2 _ _ ew hlw
      obtain ⟨ss, es, sl, sr, si⟩ := gB.std hW1
      have e3 := e3.mono (m' := 9 * N + 9) (fun _ z => z) (fun _ _ => rfl) (by omega)
      have el : atI ((Kn.way f l).map V.int) (-1) = some (.int (knot f l)) := by
        have hw := way_last f l
        obtain ⟨xs, x, e⟩ : ∃ xs x, Kn.way f l = xs ++ [x] := ⟨_, _, (List.dropLast_concat_getLast (way_ne f l)).symm⟩
        rw [e, List.length_append, List.length_singleton, Nat.add_sub_cancel, List.getElem?_append_right (Nat.le_refl _), Nat.sub_self] at hw
        have hw : x = knot f l := Option.some.inj hw
        rw [e, List.map_append, hw]
        exact atI_snoc _ _
      dsimp only
      refine rd_expr ⟨_, rfl, p, C, dx, _, _, rfl, ho2, T.cl, T.n2, if_s a, a.s, rfl, .inr ⟨ss, .inl es⟩, _, rfl, _, rfl, 1, rfl, lw, _, _, _, rfl, rfl, SqL.of ew2, el, by show 2 ≤ sizeLine; decide, fun t nt => ⟨by show 0 ≤ sizeLine; decide, fun r nr => ?_⟩⟩
      have nr2 : H2 r = none := by
        cases q2 : H2 r with
        | none => rfl
        | some v => rw [upd_ne (ne_of_none q2 nt), q2] at nr; cases nr
      have hst : a.s ≠ t := ne_of_none es nt
      have hsr : a.s ≠ r := ne_of_none es nr2
      have htr : t ≠ r := fun z => by rw [← z, upd_same] at nr; cases nr
      refine ⟨ss, kk k (knot f l), t, by rw [upd_ne hsr, upd_ne hst]; exact es, rfl, by rw [upd_ne htr, upd_same]; rfl, by rw [sizeLine_eq]; omega, fun v hv => ?_, fun hn => ?_⟩
      · have rr := sr k (knot f l)
        rw [hv] at rr
        obtain ⟨ra, ps, qs, rfl, mra, era, hq, hp, hne⟩ := rr.row
        have hrt : ra ≠ t := ne_of_none era nt
        have hrr : ra ≠ r := ne_of_none era nr2
        have era3 : upd (upd H2 t (.tup ((kk k (knot f l)).map kV))) r (.lst []) ra = some (.lst (ps.map V.ref)) := by rw [upd_ne hrr, upd_ne hrt]; exact era
        refine ⟨.inl ⟨rfl, _, SqL.of era3⟩, _, rfl, _, rfl, _, rfl, by show 3 ≤ sizeLine; decide, fun u nu => ⟨ra, _, _, rfl, rfl, by rw [upd_ne (ne_of_none era3 nu)]; exact era3, ?_, ?_⟩⟩
        · have := hp.length_eq
          have := stL_le L k (knot f l)
          have := Paired.length hq
          have := hW1.ln
          rw [List.length_map, sizeLine_eq]
          omega
        · have nu2 : H2 u = none := by
            cases q2 : H2 u with
            | none => rfl
            | some v => rw [upd_ne (ne_of_none q2 nr2), upd_ne (ne_of_none q2 nt), q2] at nu; cases nu
          refine q _ M ((Fr2.grow g1).trans ⟨fun b v e hb => ?_, fun b hb => .inl hb⟩) (hW1.placeT (H2 := H2) (u := u) hN gB e3 es hv era (fun b v e hb => ?_) ?_ ?_)
          · have ebw : b ≠ a.w := fun z => hb (z ▸ hW1.mw)
            have ebr : b ≠ ra := fun z => hb (z ▸ mra)
            have e := e2 _ _ e ebw
            rw [upd_ne ebr, upd_ne (ne_of_none e nu2), upd_ne (ne_of_none e nr2), upd_ne (ne_of_none e nt)]
            exact e
          · rw [upd_ne hb, upd_ne (ne_of_none e nu2), upd_ne (ne_of_none e nr2), upd_ne (ne_of_none e nt)]
            exact e
          · rw [upd_same, List.map_append]; rfl
          · rw [upd_ne (Ne.symm (ne_of_none era nu2)), upd_same]; rfl
      · refine ⟨.inl ⟨rfl, _, SqL.of (by rw [upd_ne (Ne.symm hsr), upd_same])⟩, _, rfl, _, rfl, _, rfl, by show 3 ≤ sizeLine; decide, fun u nu => ?_⟩
        have hur : u ≠ r := fun z => by rw [z, upd_ne (Ne.symm hsr), upd_same] at nu; cases nu
        have hus : u ≠ a.s := fun z => by rw [z, upd_same] at nu; cases nu
        have nu2 : H2 u = none := by
          cases q2 : H2 u with
          | none => rfl
          | some v => rw [upd_ne hus, upd_ne hur, upd_ne (ne_of_none q2 nt), q2] at nu; cases nu
        refine ⟨r, _, _, rfl, rfl, by rw [upd_ne (Ne.symm hur), upd_ne (Ne.symm hsr), upd_same], by show 0 < sizeLine; decide, ?_⟩
        refine q _ (fun b => M b ∨ b = r) ((Fr2.grow g1).trans ⟨fun b v e hb => ?_, fun b hb => ?_⟩) (hW1.placeN (H2 := H2) (u := u) hN gB e3 es hn nr2 (fun b v e hb => ?_) ?_ ?_ ?_)
        · have ebw : b ≠ a.w := fun z => hb (z ▸ hW1.mw)
          have ebs : b ≠ a.s := fun z => hb (z ▸ hW1.ms)
          have e := e2 _ _ e ebw
          rw [upd_ne (ne_of_none e nr2), upd_ne (ne_of_none e nu2), upd_ne ebs, upd_ne (ne_of_none e nr2), upd_ne (ne_of_none e nt)]
          exact e
        · rcases hb with hb | rfl
          · exact .inl hb
          · refine .inr ?_
            cases q1 : H1 b with
            | none => rfl
            | some v =>
              by_cases z : b = a.w
              · obtain ⟨ws, x1, _⟩ := e3.ex
                rw [z, x1] at nr2; cases nr2
              · rw [e2 _ _ q1 z] at nr2; cases nr2
        · rw [upd_ne (ne_of_none e nr2), upd_ne (ne_of_none e nu2), upd_ne hb, upd_ne (ne_of_none e nr2), upd_ne (ne_of_none e nt)]
          exact e
        · rw [upd_ne hsr, upd_ne (Ne.symm hus), upd_same]
        · rw [upd_same]; rfl
        · rw [upd_ne hur, upd_same]; rfl
end
section
variable {P : Program} {w : World} {K : PySem.W.Frag} {mg : Str → Option Value} {base : Heap}
theorem scRemove : FnScope ["self", "owner", "key", "first", "last", "way", "knot", "rows"] ["self", "owner", "key", "first", "last"] (defScope sRemove) := ⟨rfl, rfl, rfl, by decide +kernel, rfl, by decide +kernel, by decide +kernel⟩
theorem ok_remove {f f1 C : Addr} {fd : FuncData} (F : Fun K "remove_box" "Index.remove_box" sRemove f fd) (T : IxC K C) {fd1 : FuncData} (CY : Cal P w K mg base "way_to" 2 ["first", "last"] spWay f1 fd1) : FnOk P w K mg base CX0 3 f fd ["self", "owner", "key", "first", "last"] (spRemove C) := by
  refine F.ok (k := 2) scRemove (fun vs H Q E h => ?_) (fun cdv A outer s H vs Q E hr h => ?_)
  · obtain ⟨p, a, M, L, N, o, k, f, l, rfl, _⟩ := h
    rfl
  · obtain ⟨p, a, M, L, N, o, k, f, l, rfl, ⟨dx, ho⟩, h, h0, h1, h2, q⟩ := h
    have hu := hu_of hr
    refine ⟨_, (pss_cons (ps_set (i := 5) scRemove.nd rfl (Or.inl rfl) (pe_call CY.ok (hr.mono (by decide)) rfl CY.nm CY.kp CY.bd .nil pass0 (pa_cons (pv 3) (pa_cons (pv 4) pa_nil))))
      (pss_cons (ps_for PassesOwn.never rfl (pi_list (pv 5)) (pg_name (i := 6) scRemove.nd rfl (Or.inl rfl))
      (pss_cons (ps_daug hu (pe_fld (pv 0) rfl) (pe_tup (pa_cons (pv 2) (pa_cons (pv 6) pa_nil))) pe_int in_sub (fun _ _ _ => rfl))
      (pss_one (ps_if (pt_cmpR op_eq (pe_dget hu (pe_fld (pv 0) rfl) (pe_tup (pa_cons (pv 2) (pa_cons (pv 6) pa_nil))) (fun _ _ => rfl)) pe_int (nomark _)) (pss_one (ps_expr (pe_dpopT hu (pe_fld (pv 0) rfl) (pe_tup (pa_cons (pv 2) (pa_cons (pv 6) pa_nil))) ⟨rfl, rfl, rfl, rfl⟩))) pss_nil))))
      (pss_cons (ps_set (i := 7) scRemove.nd rfl (Or.inl rfl) (pe_dget hu (pe_fld (pv 0) rfl) (pe_tup (pa_cons (pv 2) (pa_cons (pe_ix ix_list (pv 5) (pe_un un_neg pe_int) (fun _ _ => rfl)) pa_nil))) (fun _ _ => rfl)))
      (pss_cons (ps_expr (pe_bm PySem.F.plainAttrs_list PySem.F.slot_list_remove PySem.F.type_list_remove (mt_remove hu) (pv 7) (pa_cons (pe_tup (pa_cons (pv 1) (pa_cons (pv 3) (pa_cons (pv 4) pa_nil)))) pa_nil)))
      (pss_one (ps_if (pt_not (pt_truth (pv 7) (fun _ => rfl))) (pss_one (ps_expr (pe_dpopT hu (pe_fld (pv 0) rfl) (pe_tup (pa_cons (pv 2) (pa_cons (pe_ix ix_list (pv 5) (pe_un un_neg pe_int) (fun _ _ => rfl)) pa_nil))) ⟨rfl, rfl, rfl, rfl⟩))) pss_nil)))))), ?_⟩
    refine rd_seq (rd_asg ⟨_, rfl, _, rfl, f, l, rfl, h0, h1, h2, fun lw H1 nlw g1 ew => ?_⟩)
    dsimp only [gName]
    have hW1 := h.grow g1
    have ho1 := g1 _ _ ho
    obtain ⟨ws0, ew0, lw0, vw0⟩ := hW1.hw.ex
    have hlw : lw ≠ a.w := ne_of ew ew0 (fun z => nomatch z)
    have hpw : p ≠ a.w := ne_of ho1 ew0 (fun z => nomatch z)
    refine rd_seq ⟨_, rfl, lw, rfl, ⟨_, SqL.of ew⟩, for_list (K := K) (a := lw) (xs := (Kn.way f l).map V.int)
      (PlI H1 a p lw o k f l (fun i k' n => wt L k' n + if k' = k then ((Kn.way f l).drop i).count n else 0) (fun i => 9 * N) (fun v6 => [some (.ref p), some (.str o), some (.str k), some (.int f), some (.int l), some (.ref lw), v6, none])) ⟨none, rfl, fun _ _ e _ => e, ws0, ew0, lw0, fun k' n => ?_⟩
      (fun i σ H2 _ hh => ?_) (fun i x σ H2 hi hh => ?_) fun σ H2 hh => ?_⟩
    · rw [vw0, List.drop_zero, wt_new]
    · obtain ⟨v6, rfl, e2, e3⟩ := hh
      exact SqL.of (e2 _ _ ew hlw)
    · obtain ⟨v6, rfl, e2, ⟨ws, ew2, lw2, vw2⟩⟩ := hh
      rw [List.getElem?_map] at hi
      cases en : (Kn.way f l)[i]? with
      | none => rw [en] at hi; cases hi
      | some n =>
        rw [en] at hi
        cases hi
        have hil := (List.getElem?_eq_some_iff.mp en).1
        have ho2 := e2 _ _ ho1 hpw
        have gi : ∀ k' n', (wt L k' n' + if k' = k then ((Kn.way f l).drop i).count n' else 0) = (wt L k' n' + if k' = k then ((Kn.way f l).drop (i + 1)).count n' else 0) + if k' = k ∧ n' = n then 1 else 0 := fun k' n' => by
          by_cases ek : k' = k
          · rw [if_pos ek, if_pos ek, count_drop en]
            by_cases em : n' = n
            · rw [if_pos em, if_pos ⟨ek, em⟩]; omega
            · rw [if_neg em, if_neg (fun z => em z.2)]; omega
          · rw [if_neg ek, if_neg ek, if_neg (fun z => ek z.1)]
        have gn := gi k n
        rw [if_pos (show k = k ∧ n = n from ⟨rfl, rfl⟩)] at gn
        have hc : 0 < (wt L k n + if k = k then ((Kn.way f l).drop i).count n else 0) := by omega
        refine ⟨_, rfl, p, C, dx, _, _, rfl, ho2, T.cl, T.n3, if_w a, _, rfl, _, rfl, by show 2 ≤ sizeLine; decide, fun t nt => ?_⟩
        have kt := keepN (v := .tup [V.str k, V.int n]) nt
        refine ⟨a.w, _, rfl, by have d := DGet.t (kvs := ws) (k := kk k n) (kt _ _ ew2) upd_same; rw [vw2, wtV_pos hc] at d; exact d, _, _, rfl, rfl, _, DPut.t (kvs := ws) (k := kk k n) (kt _ _ ew2) upd_same (by have := h.nn; rw [sizeLine_eq]; omega), ?_⟩
        dsimp only
        have kw : ∀ b u, H2 b = some u → b ≠ a.w → ∀ v, upd (upd H2 t (.tup [V.str k, V.int n])) a.w v b = some u := fun b u e hb v => by rw [upd_ne hb]; exact kt _ _ e
        refine rd_if ⟨_, rfl, p, C, dx, _, _, rfl, (kw _ _ ho2 hpw _), T.cl, T.n3, if_w a, _, rfl, _, rfl, by show 2 ≤ sizeLine; decide, fun t2 nt2 => ?_⟩
        have kt2 := keepN (v := .tup [V.str k, V.int n]) nt2
        refine ⟨a.w, _, rfl, by have d := DGet.t (k := kk k n) (kt2 _ _ upd_same) upd_same; rw [valV_putS] at d; exact d, rfl, _, rfl, ite2 (fun c0 => ?_) fun c0 => ?_⟩
        · have c0 : ((wt L k n + if k = k then ((Kn.way f l).drop i).count n else 0 : Nat) : Int) - 1 = 0 := by
            have := of_decide_eq_true c0
            injection this
          refine rd_expr ⟨_, rfl, p, C, dx, _, _, rfl, (kt2 _ _ (kw _ _ ho2 hpw _)), T.cl, T.n3, if_w a, a.w, rfl, .inr ⟨_, .inl (kt2 _ _ upd_same)⟩, _, rfl, _, rfl, by show 2 ≤ sizeLine; decide, fun t3 nt3 => ?_⟩
          have kt3 := keepN (v := .tup [V.str k, V.int n]) nt3
          refine ⟨_, kk k n, _, t3, kt3 _ _ (kt2 _ _ upd_same), rfl, upd_same, valV_putS _ _ _, _, rfl, fun b u e hb => ?_, ?_⟩
          · rw [upd_ne hb]
            exact kt3 _ _ (kt2 _ _ (kw _ _ (e2 _ _ e hb) hb _))
          · refine WAt.gone (k := k) (n := n) lw2 vw2 upd_same hc (by omega) fun k' n' hne => ?_
            have gk := gi k' n'
            rw [if_neg hne] at gk
            exact gk.symm
        · have c0 : ¬ ((wt L k n + if k = k then ((Kn.way f l).drop i).count n else 0 : Nat) : Int) - 1 = 0 := fun z => c0 (decide_eq_true (by rw [z]))
          refine rd_next ⟨_, rfl, fun b u e hb => kt2 _ _ (kw _ _ (e2 _ _ e hb) hb _), ?_⟩
          refine WAt.down (k := k) (n := n) lw2 vw2 (kt2 _ _ upd_same) (by omega) (by omega) fun k' n' hne => ?_
          have gk := gi k' n'
          rw [if_neg hne] at gk
          exact gk.symm
    · obtain ⟨v6, rfl, e2, e3⟩ := hh
      rw [List.length_map, List.drop_length] at e3
      have e3 : WAt H2 a.w (wt L) (9 * N) := e3.mono (fun _ z => z) (fun k' n => by rw [List.count_nil]; split <;> rfl) (Nat.le_refl _)
      have gB : WB H1 H2 a := ⟨e2⟩
      have ho2 := e2 _ _ ho1 hpw
      have ew2 := e2 _ _ ew hlw
      obtain ⟨ss, es, sl, sr, si⟩ := gB.std hW1
      have rr := sr k (knot f l)
      rw [stL_pos (show atK (o, k, f, l) k (knot f l) from ⟨rfl, rfl⟩)] at rr
      cases hv : valV ss (kk k (knot f l)) with
      | none =>
        rw [hv] at rr
        cases rr with
        | no _ z => cases z
        | yes _ _ _ z _ _ _ _ _ => cases z
      | some v =>
        rw [hv] at rr
        obtain ⟨ra, ps, qs, rfl, mra, era, hq, hp, hne⟩ := rr.row
        obtain ⟨j, j1, j2, j3⟩ := first_at (hp.mem_iff.mpr (List.mem_cons_self : (o, f, l) ∈ _))
        have hpe : (qs.eraseIdx j).Perm (stL L k (knot f l)) := (List.perm_cons _).mp (j3.symm.trans hp)
        dsimp only
        refine rd_seq (rd_asg ⟨_, rfl, p, C, dx, _, _, rfl, ho2, T.cl, T.n2, if_s a, _, rfl, _, rfl, 1, rfl, lw, _, _, _, rfl, rfl, SqL.of ew2, way_lastI f l, by show 2 ≤ sizeLine; decide, fun t nt => ?_⟩)
        have kt := keepN (v := .tup [V.str k, V.int (knot f l)]) nt
        refine ⟨a.s, _, rfl, by have d := DGet.t (k := kk k (knot f l)) (kt _ _ es) upd_same; rw [hv] at d; exact d, ?_⟩
        dsimp only [gName]
        refine rd_seq (rd_expr ⟨_, rfl, .inl ⟨rfl, _, SqL.of (kt _ _ era)⟩, _, rfl, _, rfl, _, rfl, by show 3 ≤ sizeLine; decide, fun u nu => ?_⟩)
        have ku := keepN (v := .tup [V.str o, V.int f, V.int l]) nu
        refine ⟨ra, u, ps, qs, j, (o, f, l), rfl, rfl, ku _ _ (kt _ _ era), Paired.mapP hq fun _ _ e => ku _ _ (kt _ _ e), upd_same, j1, j2, ?_⟩
        dsimp only [List.set_cons_succ, List.set_cons_zero]
        have hlt : t ≠ ra := Ne.symm (ne_of_none era nt)
        have hur : u ≠ ra := Ne.symm (ne_of_none (kt _ _ era) nu)
        have k5 : ∀ b v, H2 b = some v → b ≠ ra → upd (upd (upd H2 t (.tup [V.str k, V.int (knot f l)])) u (.tup [V.str o, V.int f, V.int l])) ra (.lst ((ps.eraseIdx j).map V.ref)) b = some v := fun b v e hb => by
          rw [upd_ne hb]; exact ku _ _ (kt _ _ e)
        have fr : ∀ b v, H1 b = some v → ¬ M b → upd (upd (upd H2 t (.tup [V.str k, V.int (knot f l)])) u (.tup [V.str o, V.int f, V.int l])) ra (.lst ((ps.eraseIdx j).map V.ref)) b = some v := fun b v e hb => k5 _ _ (e2 _ _ e fun z => hb (z ▸ hW1.mw)) fun z => hb (z ▸ mra)
        have ntup : ∀ b x, H2 b = some (.tup x) → upd (upd (upd H2 t (.tup [V.str k, V.int (knot f l)])) u (.tup [V.str o, V.int f, V.int l])) ra (.lst ((ps.eraseIdx j).map V.ref)) b = some (.tup x) := fun b x e => k5 b _ e fun z => by rw [z, era] at e; cases e
        have hq5 : RowB (upd (upd (upd H2 t (.tup [V.str k, V.int (knot f l)])) u (.tup [V.str o, V.int f, V.int l])) ra (.lst ((ps.eraseIdx j).map V.ref))) (ps.eraseIdx j) (qs.eraseIdx j) := Paired.mapP (paired_erase hq j) fun _ _ e => ntup _ _ e
        have hl5 : (ps.eraseIdx j).length = (stL L k (knot f l)).length := (Paired.length hq5).trans hpe.length_eq
        refine rd_if ⟨_, rfl, _, (.inl ⟨_, SqL.of upd_same, rfl⟩), ?_⟩
        dsimp only
        have hps : p ≠ a.s := ne_of ho2 es (fun z => nomatch z)
        have hpra : p ≠ ra := ne_of ho2 era (fun z => nomatch z)
        have hsra : a.s ≠ ra := ne_of es era (fun z => nomatch z)
        have hlra : lw ≠ ra := fun z => by
          rcases h.mt ra mra with ⟨x, e⟩ | ⟨x, e⟩ <;> (rw [← z, nlw] at e; cases e)
        cases hem : stL L k (knot f l) with
        | nil =>
          rw [hem] at hl5
          have hnil : ps.eraseIdx j = [] := List.length_eq_zero_iff.mp hl5
          rw [hnil] at k5 fr ⊢
          refine iteT (rd_expr ⟨_, rfl, p, C, dx, _, _, rfl, (k5 _ _ ho2 hpra), T.cl, T.n2, if_s a, a.s, rfl, .inr ⟨ss, .inl (k5 _ _ es hsra)⟩, _, rfl, _, rfl, 1, rfl, lw, _, _, _, rfl, rfl, SqL.of (k5 _ _ ew2 hlra), way_lastI f l, by show 2 ≤ sizeLine; decide, fun t3 nt3 => ?_⟩)
          have kt3 := keepN (v := .tup [V.str k, V.int (knot f l)]) nt3
          refine ⟨ss, kk k (knot f l), _, t3, kt3 _ _ (k5 _ _ es hsra), rfl, upd_same, hv, ?_⟩
          refine q _ M ((Fr2.grow g1).trans ⟨fun b v e hb => ?_, fun b hb => .inl hb⟩) (hW1.removeN (H2 := H2) gB e3 es hv ⟨_, era⟩ (fun b v e hb hb2 => ?_) ?_ upd_same hem)
          · rw [upd_ne (show b ≠ a.s from fun z => hb (z ▸ hW1.ms))]
            exact kt3 _ _ (fr _ _ e hb)
          · rw [upd_ne hb2]
            exact kt3 _ _ (k5 _ _ e hb)
          · rw [upd_ne (Ne.symm hsra)]
            exact kt3 _ _ upd_same
        | cons r0 rs0 =>
          rw [hem] at hl5
          have hnn : (ps.eraseIdx j) ≠ [] := fun z => by rw [z] at hl5; cases hl5
          have : (!(!((ps.eraseIdx j).map V.ref).isEmpty)) = false := by
            cases hps : ps.eraseIdx j with
            | nil => exact absurd hps hnn
            | cons => rfl
          rw [this]
          exact iteF (rd_next (q _ M ((Fr2.grow g1).trans ⟨fr, fun b hb => .inl hb⟩) (hW1.removeT (H2 := H2) gB e3 es hv mra ⟨_, era⟩ k5 upd_same hq5 hpe (by rw [hem]; simp))))
end
end Mine
namespace L2
open PySem PySem.Spec PyProof.Rows
def alls (I : Ix) : List OB := I.flatMap fun x => x.2.map fun b => (x.1, b)
def look (I : Ix) (o : Str) : Option (List RwB) := (I.find? fun x => decide (x.1 = o)).map (·.2)
def dropI (I : Ix) (o : Str) : Ix := I.filter fun x => decide (x.1 ≠ o)
def BxL (H : Hp) (la : Addr) (bs : List RwB) : Prop := ∃ ps, H la = some (.lst (ps.map V.ref)) ∧ RowB H ps bs
def PlR (H : Hp) (M : Addr → Prop) (kv : Key × V) (x : Str × List RwB) : Prop := kv.1 = Sum.inr x.1 ∧ ∃ la, kv.2 = .ref la ∧ ¬ M la ∧ BxL H la x.2
def DayOk (r : RwB) : Prop := 0 ≤ r.2.1 ∧ r.2.1 ≤ r.2.2 ∧ r.2.2 < 400
structure IxAt (C : Addr) (H : Hp) (p : Addr) (a : IA) (M : Addr → Prop) (I : Ix) (N : Nat) : Prop where
  ob : ∃ dx, H p = some (.ins C dx (iflds a))
  pl : ∃ kvs, H a.p = some (.dK kvs) ∧ kvs.length ≤ N ∧ Paired (PlR H M) kvs I
  ws : WS H a M (alls I) N
  nd : (I.map (·.1)).Nodup
  ok : ∀ x ∈ I, ∀ b ∈ x.2, DayOk b
def mm (a : IA) (M : Addr → Prop) (b : Addr) : Prop := b = a.p ∨ M b
theorem look_nil (o : Str) : look [] o = none := rfl
theorem look_pos {x : Str × List RwB} {I : Ix} {o : Str} (h : x.1 = o) : look (x :: I) o = some x.2 := by
  unfold look; rw [List.find?_cons_of_pos (by simpa using h)]; rfl
theorem look_neg {x : Str × List RwB} {I : Ix} {o : Str} (h : ¬ x.1 = o) : look (x :: I) o = look I o := by
  unfold look; rw [List.find?_cons_of_neg (by simpa using h)]
theorem look_none {I : Ix} {o : Str} : look I o = none ↔ o ∉ I.map (·.1) := by
  induction I with
  | nil => simp [look_nil]
  | cons x I ih =>
    by_cases h : x.1 = o
    · rw [look_pos h]; simp [h]
    · rw [look_neg h, ih, List.map_cons, List.mem_cons]
      exact ⟨fun a b => b.elim (fun z => h z.symm) a, fun a b => a (.inr b)⟩
theorem look_mem {I : Ix} {o : Str} {bs : List RwB} (h : look I o = some bs) : (o, bs) ∈ I := by
  induction I with
  | nil => cases h
  | cons x I ih =>
    by_cases e : x.1 = o
    · rw [look_pos e] at h
      cases h
      subst e
      exact List.mem_cons_self
    · rw [look_neg e] at h
      exact List.mem_cons_of_mem _ (ih h)
theorem mem_look {I : Ix} (nd : (I.map (·.1)).Nodup) {o : Str} {bs : List RwB} (h : (o, bs) ∈ I) : look I o = some bs := by
  induction I with
  | nil => cases h
  | cons x I ih =>
    rw [List.map_cons, List.nodup_cons] at nd
    rcases List.mem_cons.mp h with rfl | h
    · exact look_pos rfl
    · have : ¬ x.1 = o := fun z => nd.1 (z ▸ List.mem_map_of_mem (f := fun y : Str × List RwB => y.1) h)
      rw [look_neg this]
      exact ih nd.2 h
theorem dropI_pos {x : Str × List RwB} {I : Ix} {o : Str} (h : x.1 = o) : dropI (x :: I) o = dropI I o := by unfold dropI; rw [List.filter_cons_of_neg (by simpa using h)]
theorem dropI_neg {x : Str × List RwB} {I : Ix} {o : Str} (h : ¬ x.1 = o) : dropI (x :: I) o = x :: dropI I o := by unfold dropI; rw [List.filter_cons_of_pos (by simpa using h)]
theorem dropI_no {I : Ix} {o : Str} (h : look I o = none) : dropI I o = I := by
  unfold dropI
  refine List.filter_eq_self.mpr fun x hx => decide_eq_true fun e => look_none.mp h (e ▸ List.mem_map_of_mem (f := fun y : Str × List RwB => y.1) hx)
theorem dropI_mem {I : Ix} {o : Str} {x : Str × List RwB} (h : x ∈ dropI I o) : x ∈ I ∧ x.1 ≠ o := by
  have := List.mem_filter.mp h
  exact ⟨this.1, of_decide_eq_true this.2⟩
theorem dropI_nd {I : Ix} {o : Str} (h : (I.map (·.1)).Nodup) : ((dropI I o).map (·.1)).Nodup := List.Nodup.sublist (List.Sublist.map _ List.filter_sublist) h
theorem dropI_not (I : Ix) (o : Str) : o ∉ (dropI I o).map (·.1) := fun h => by
  obtain ⟨x, hx, e⟩ := List.mem_map.mp h
  exact (dropI_mem hx).2 e
theorem look_drop (I : Ix) (o o' : Str) : look (dropI I o) o' = if o' = o then none else look I o' := by
  induction I with
  | nil => rw [show dropI [] o = [] from rfl, look_nil]; split <;> rfl
  | cons x I ih =>
    by_cases e : x.1 = o
    · rw [dropI_pos e, ih]
      by_cases h : o' = o
      · rw [if_pos h, if_pos h]
      · rw [if_neg h, if_neg h, look_neg (fun z => h (z.symm.trans e))]
    · rw [dropI_neg e]
      by_cases h : x.1 = o'
      · rw [look_pos h, look_pos h, if_neg (fun z => e (h.trans z))]
      · rw [look_neg h, look_neg h, ih]
theorem look_snoc (I : Ix) (o o' : Str) (bs : List RwB) (h : look I o = none) : look (I ++ [(o, bs)]) o' = if o' = o then some bs else look I o' := by
  induction I with
  | nil =>
    rw [List.nil_append]
    by_cases e : o' = o
    · rw [if_pos e, look_pos e.symm]
    · rw [if_neg e, look_neg (fun z => e z.symm)]
  | cons x I ih =>
    have hx : ¬ x.1 = o := fun z => by rw [look_pos z] at h; cases h
    rw [look_neg hx] at h
    rw [List.cons_append]
    by_cases e : x.1 = o'
    · rw [look_pos e, look_pos e, if_neg (fun z => hx (e.trans z))]
    · rw [look_neg e, look_neg e, ih h]
theorem alls_snoc (I : Ix) (o : Str) (bs : List RwB) : alls (I ++ [(o, bs)]) = alls I ++ bs.map fun b => (o, b) := by
  unfold alls
  rw [List.flatMap_append]
  simp
theorem alls_drop {I : Ix} {o : Str} {bs : List RwB} (nd : (I.map (·.1)).Nodup) (h : look I o = some bs) : (alls I).Perm ((bs.map fun b => (o, b)) ++ alls (dropI I o)) := by
  induction I with
  | nil => cases h
  | cons x I ih =>
    rw [List.map_cons, List.nodup_cons] at nd
    have ea : alls (x :: I) = (x.2.map fun b => (x.1, b)) ++ alls I := rfl
    by_cases e : x.1 = o
    · rw [look_pos e] at h
      cases h
      have hn : look I o = none := look_none.mpr (e ▸ nd.1)
      rw [dropI_pos e, dropI_no hn, ea, e]
    · rw [look_neg e] at h
      rw [dropI_neg e, ea]
      have eb : alls (x :: dropI I o) = (x.2.map fun b => (x.1, b)) ++ alls (dropI I o) := rfl
      rw [eb]
      refine ((ih nd.2 h).append_left _).trans ?_
      rw [← List.append_assoc, ← List.append_assoc]
      exact List.perm_append_comm.append_right _
theorem BxL.keep {H H' : Hp} {la : Addr} {bs : List RwB} (h : BxL H la bs) (hl : ∀ x, H la = some (.lst x) → H' la = some (.lst x)) (ht : ∀ b x, H b = some (.tup x) → H' b = some (.tup x)) : BxL H' la bs := by
  obtain ⟨ps, e, r⟩ := h
  exact ⟨ps, hl _ e, Paired.mapP r fun _ _ e => ht _ _ e⟩
theorem pl_look {H : Hp} {M : Addr → Prop} {kvs : List (Key × V)} {I : Ix} (h : Paired (PlR H M) kvs I) (o : Str) : (valV kvs (Sum.inr o) = none ∧ look I o = none) ∨ ∃ la bs, valV kvs (Sum.inr o) = some (.ref la) ∧ ¬ M la ∧ BxL H la bs ∧ look I o = some bs := by
  induction h with
  | nil => exact .inl ⟨rfl, rfl⟩
  | @cons kv x kvs I a t ih =>
    obtain ⟨e1, la, e2, nm, bl⟩ := a
    by_cases e : x.1 = o
    · exact .inr ⟨la, x.2, by rw [valV_pos (by rw [e1, e]), e2], nm, bl, look_pos e⟩
    · rw [valV_neg (fun z => e (by rw [e1] at z; injection z)), look_neg e]
      exact ih
theorem pl_drop {H : Hp} {M : Addr → Prop} {kvs : List (Key × V)} {I : Ix} (h : Paired (PlR H M) kvs I) (o : Str) : Paired (PlR H M) (dropK kvs (Sum.inr o)) (dropI I o) := by
  induction h with
  | nil => exact .nil
  | @cons kv x kvs I a t ih =>
    by_cases e : x.1 = o
    · rw [dropK_pos (a.1.trans (congrArg Sum.inr e)), dropI_pos e]; exact ih
    · rw [dropK_neg (fun z => e (by have := a.1.symm.trans z; injection this)), dropI_neg e]; exact .cons a ih
theorem pl_keep {H H' : Hp} {M M' : Addr → Prop} {kvs : List (Key × V)} {I : Ix} (h : Paired (PlR H M) kvs I) (hl : ∀ b x, ¬ M b → H b = some (.lst x) → H' b = some (.lst x) ∧ ¬ M' b) (ht : ∀ b x, H b = some (.tup x) → H' b = some (.tup x)) : Paired (PlR H' M') kvs I :=
  Paired.mapP h fun kv x ⟨e1, la, e2, nm, bl⟩ => by
    obtain ⟨ps, e, r⟩ := id bl
    exact ⟨e1, la, e2, (hl la _ nm e).2, bl.keep (fun x e => (hl la x nm e).1) ht⟩
theorem Fr2.lst {H H' : Hp} {M M' : Addr → Prop} (f : Fr2 H H' M M') : ∀ b x, ¬ M b → H b = some (.lst x) → H' b = some (.lst x) ∧ ¬ M' b := fun b x nm e => ⟨f.keep _ _ e nm, fun z => (f.new b z).elim nm fun q => by rw [e] at q; cases q⟩
theorem IxAt.keep {C : Addr} {H H' : Hp} {p : Addr} {a : IA} {M : Addr → Prop} {I : Ix} {N : Nat} (h : IxAt C H p a M I N) (g : ∀ b o, H b = some o → H' b = some o) : IxAt C H' p a M I N := by
  obtain ⟨dx, ho⟩ := h.ob
  obtain ⟨kvs, e, hl, hp⟩ := h.pl
  exact ⟨⟨dx, g _ _ ho⟩, ⟨kvs, g _ _ e, hl, pl_keep hp (fun b x nm e => ⟨g _ _ e, nm⟩) fun b x e => g _ _ e⟩, h.ws.grow g, h.nd, h.ok⟩
theorem mm_grow {a : IA} {H H' : Hp} {M M' : Addr → Prop} (f : Fr2 H H' M M') : Fr2 H H' (mm a M) (mm a M') :=
  ⟨fun b o e h => f.keep b o e fun z => h (.inr z), fun b h => h.elim (fun z => .inl (.inl z)) fun z => (f.new b z).imp .inr id⟩
def NotPl (H : Hp) (a : IA) (l : Addr) : Prop := ∀ kvs, H a.p = some (.dK kvs) → ∀ kv ∈ kvs, kv.2 ≠ .ref l
structure Fr3 (a : IA) (H H' : Hp) (M M' : Addr → Prop) : Prop where
  fr : Fr2 H H' (mm a M) (mm a M')
  pl : ∀ l o, H l = some o → ¬ mm a M l → NotPl H a l → NotPl H' a l
theorem Fr3.trans {a : IA} {H H1 H2 : Hp} {M M1 M2 : Addr → Prop} (f : Fr3 a H H1 M M1) (g : Fr3 a H1 H2 M1 M2) : Fr3 a H H2 M M2 :=
  ⟨f.fr.trans g.fr, fun l o e hm hn => g.pl l o (f.fr.keep l o e hm) (fun z => (f.fr.new l z).elim hm fun z => by rw [e] at z; cases z) (f.pl l o e hm hn)⟩
theorem Fr3.of {a : IA} {H H' : Hp} {M M' : Addr → Prop} {kvs : List (Key × V)} (f : Fr2 H H' M M') (e : H a.p = some (.dK kvs)) (hn : ¬ M a.p) : Fr3 a H H' M M' :=
  ⟨mm_grow f, fun l o el hm hp kvs' e' => by
    rw [f.keep _ _ e hn] at e'
    cases e'
    exact hp kvs e⟩
theorem Fr3.refl {a : IA} {H : Hp} {M : Addr → Prop} : Fr3 a H H M M := ⟨Fr2.refl, fun _ _ _ _ h => h⟩
theorem Fr3.grow {a : IA} {H H' : Hp} {M : Addr → Prop} {kvs : List (Key × V)} (g : ∀ b o, H b = some o → H' b = some o) (e : H a.p = some (.dK kvs)) : Fr3 a H H' M M :=
  ⟨Fr2.grow g, fun l o el hm hp kvs' e' => by
    rw [g _ _ e] at e'
    cases e'
    exact hp kvs e⟩
end L2
namespace Mine
open PySem L2
inductive HasV (K : PySem.W.Frag) (H : Hp) (I : Ix) (v : V) : Bool → Prop
  | yes (o : Str) (bs : List RwB) (h : v = .str o) (h1 : look I o = some bs) : HasV K H I v true
  | no (o : Str) (h : v = .str o) (h1 : look I o = none) : HasV K H I v false
  | odd (h : NotTy K "str" H v) : HasV K H I v false
def spHasO (C : Addr) (K : PySem.W.Frag) : Sp := fun vs H Q _ => ∃ (p : Addr) (a : IA) (M : Addr → Prop) (I : Ix) (N : Nat) (v : V) (c : Bool), vs = [.ref p, v] ∧ IxAt C H p a M I N ∧ HasV K H I v c ∧ Q (.bl c) H
def spTake (C : Addr) (K : PySem.W.Frag) : Sp := fun vs H Q _ => ∃ (p : Addr) (a : IA) (M : Addr → Prop) (I : Ix) (N : Nat) (v : V) (c : Bool), vs = [.ref p, v] ∧ IxAt C H p a M I N ∧ HasV K H I v c ∧ (c = false → Q (.bl false) H) ∧
  (∀ o, v = .str o → c = true → ∀ (H' : Hp) (M' : Addr → Prop), Fr3 a H H' M M' → IxAt C H' p a M' (dropI I o) N → Q (.bl true) H')
def spPutAll (C : Addr) : Sp := fun vs H Q _ => ∃ (p : Addr) (a : IA) (M : Addr → Prop) (I : Ix) (N : Nat) (o : Str) (lb : Addr) (bs : List RwB), vs = [.ref p, .str o, .ref lb] ∧ IxAt C H p a M I N ∧ BxL H lb bs ∧ ¬ M lb ∧ (∀ x ∈ bs, DayOk x) ∧ N + bs.length < 100000 ∧
  ∀ (H' : Hp) (M' : Addr → Prop), Fr3 a H H' M M' → IxAt C H' p a M' (dropI I o ++ [(o, bs)]) (N + bs.length + 1) → Q .non H'
section
variable {P : Program} {w : World} {K : PySem.W.Frag} {mg : Str → Option Value} {base : Heap}
theorem scHasO : FnScope ["self", "owner"] ["self", "owner"] (defScope sHasO) := ⟨rfl, rfl, rfl, by decide +kernel, rfl, by decide +kernel, by decide +kernel⟩
theorem ok_hasO {f C : Addr} {fd : FuncData} (F : Fun K "has" "Index.has" sHasO f fd) (N : Free mg) (T : IxC K C) : FnOk P w K mg base CX0 1 f fd ["self", "owner"] (spHasO C K) := by
  refine F.ok (k := 0) scHasO (fun vs H Q E h => ?_) (fun cdv A outer s H vs Q E hr h => ?_)
  · obtain ⟨p, a, M, I, n, v, c, rfl, _⟩ := h
    rfl
  · obtain ⟨p, a, M, I, n, v, c, rfl, h, hv, q⟩ := h
    have hu := hu_of hr
    refine ⟨_, (pss_one (ps_ret (pe_and (pe_callB call_isinst (by rfl) N.isinstance PyProof.Rows.Boot.«isinstance» (pa_cons (pv 1) (pa_cons (pe_bltn (v := .ty "str") (by rfl) N.str PyProof.Rows.Boot.«str» rfl) pa_nil))) (pe_one (pe_cmp (pc_din hu (pv 1) (pe_fld (pv 0) rfl))))))), ?_⟩
    obtain ⟨dx, ho⟩ := h.ob
    obtain ⟨kvs, e, hl, hp⟩ := h.pl
    cases hv with
    | yes o bs h0 h1 =>
      subst h0
      have hk := pl_look hp o
      rw [h1] at hk
      rcases hk with ⟨_, z⟩ | ⟨la, bs', e1, _⟩
      · cases z
      · refine ⟨_, rfl, .str o, "str", _, true, rfl, .str o, by rfl, _, rfl, iteT ⟨_, rfl, _, rfl, p, C, dx, _, _, rfl, ho, T.cl, T.n1, if_p a, a.p, _, rfl, DGet.k (k := Sum.inr o) e, ?_⟩⟩
        rw [e1]
        exact q
    | no o h0 h1 =>
      subst h0
      have hk := pl_look hp o
      rw [h1] at hk
      rcases hk with ⟨e1, _⟩ | ⟨la, bs', _, _, _, z⟩
      · refine ⟨_, rfl, .str o, "str", _, true, rfl, .str o, by rfl, _, rfl, iteT ⟨_, rfl, _, rfl, p, C, dx, _, _, rfl, ho, T.cl, T.n1, if_p a, a.p, _, rfl, DGet.k (k := Sum.inr o) e, ?_⟩⟩
        rw [e1]
        exact q
      · cases z
    | odd h0 =>
      obtain ⟨t, ty, e⟩ := h0
      exact ⟨_, rfl, v, "str", _, false, rfl, ty, e, _, rfl, iteF q⟩
end
inductive TkI (C : Addr) (H1 : Hp) (p la : Addr) (a : IA) (M : Addr → Prop) (o : Str) (bs : List RwB) (L : List OB) (N : Nat) (i : Nat) (σ : St) (H2 : Hp) : Prop
  | mk (M2 : Addr → Prop) (v3 v4 v5 : Option V) (h1 : σ = [some (.ref p), some (.str o), some (.ref la), v3, v4, v5]) (h2 : Fr2 H1 H2 M M2) (h3 : WS H2 a M2 (((bs.drop i).map fun b => (o, b)) ++ L) N) : TkI C H1 p la a M o bs L N i σ H2
section
variable {P : Program} {w : World} {K : PySem.W.Frag} {mg : Str → Option Value} {base : Heap}
theorem scTake : FnScope ["self", "owner", "boxes", "key", "first", "last"] ["self", "owner"] (defScope sTake) := ⟨rfl, rfl, rfl, by decide +kernel, rfl, by decide +kernel, by decide +kernel⟩
theorem ok_take {f f1 f2 C : Addr} {fd : FuncData} (F : Fun K "take" "Index.take" sTake f fd) (T : IxC K C) {fd1 : FuncData} (MH : MC P w K mg base C "has" 1 ["self", "owner"] [] [] (spHasO C K) f1 fd1) {fd2 : FuncData} (MR : MC P w K mg base C "remove_box" 3 ["self", "owner", "key", "first", "last"] [] [] (spRemove C) f2 fd2) : FnOk P w K mg base CX0 4 f fd ["self", "owner"] (spTake C K) := by
  refine F.ok (k := 3) scTake (fun vs H Q E h => ?_) (fun cdv A outer s H vs Q E hr h => ?_)
  · obtain ⟨p, a, M, I, n, v, c, rfl, _⟩ := h
    rfl
  · obtain ⟨p, a, M, I, n, v, c, rfl, h, hv, q0, q1⟩ := h
    have hu := hu_of hr
    refine ⟨_, (pss_cons (ps_if (pt_not (pt_val (pe_meth (pv 0) MH.cl MH.mt MH.ok (hr.mono (by decide)) MH.bd MH.dv pass0 (pa_cons (pv 1) pa_nil)))) (pss_one (ps_ret pe_bl)) pss_nil)
      (pss_cons (ps_set (i := 2) scTake.nd rfl (Or.inl rfl) (pe_dpop1 (pe_fld (pv 0) rfl) (pv 1) ⟨rfl, rfl, rfl, rfl⟩))
      (pss_cons (ps_for PassesOwn.never rfl (pi_list (pv 2)) (pg_tup rfl (pgs_cons (pg_name (i := 3) scTake.nd rfl (Or.inl rfl)) (pgs_cons (pg_name (i := 4) scTake.nd rfl (Or.inl rfl)) (pgs_cons (pg_name (i := 5) scTake.nd rfl (Or.inl rfl)) pgs_nil))))
      (pss_one (ps_expr (pe_meth (pv 0) MR.cl MR.mt MR.ok (hr.mono (by decide)) MR.bd MR.dv pass0 (pa_cons (pv 1) (pa_cons (pv 3) (pa_cons (pv 4) (pa_cons (pv 5) pa_nil))))))))
      (pss_one (ps_ret pe_bl))))), ?_⟩
    obtain ⟨dx, ho⟩ := h.ob
    refine rd_seq (rd_if ⟨_, rfl, p, dx, _, rfl, ho, if_no a (by decide +kernel) (by decide +kernel) (by decide +kernel), _, rfl, p, a, M, I, n, v, c, rfl, h, hv, _, rfl, ?_⟩)
    dsimp only
    cases hv with
    | no o h0 h1 => exact iteT (q0 rfl)
    | odd h0 => exact iteT (q0 rfl)
    | yes o bs h0 h1 =>
      subst h0
      refine iteF (rd_next ?_)
      dsimp only
      obtain ⟨kvs, e, hl, hp⟩ := h.pl
      have hk := pl_look hp o
      rw [h1] at hk
      rcases hk with ⟨_, z⟩ | ⟨la, bs', e1, nla, ⟨ps, eps, rps⟩, e2⟩
      · cases z
      cases e2
      have npd : ¬ M a.p := h.ws.dk e
      have hlp : la ≠ a.p := ne_of eps e (fun z => nomatch z)
      refine rd_seq (rd_asg ⟨_, rfl, p, C, dx, _, _, rfl, ho, T.cl, T.n1, if_p a, a.p, rfl, .inl ⟨_, .inl e⟩, _, rfl, kvs, Sum.inr o, _, e, rfl, e1, ?_⟩)
      dsimp only [gName]
      have k1 : ∀ b u, H b = some u → b ≠ a.p → upd H a.p (.dK (dropK kvs (Sum.inr o))) b = some u := fun b u eb hb => by rw [upd_ne hb]; exact eb
      have hW1 : WS (upd H a.p (.dK (dropK kvs (Sum.inr o)))) a M (alls I) n := h.ws.keep fun b u eb hb => k1 b u eb fun z => hb.elim (fun m => npd (z ▸ m)) fun ⟨x, ex⟩ => by rw [z, e, ex] at eb; cases eb
      have hpp : p ≠ a.p := ne_of ho e (fun z => nomatch z)
      have ht1 : ∀ b x, H b = some (.tup x) → upd H a.p (.dK (dropK kvs (Sum.inr o))) b = some (.tup x) := fun b x eb => k1 b _ eb (ne_of eb e (fun z => nomatch z))
      have fr1 : Fr2 H (upd H a.p (.dK (dropK kvs (Sum.inr o)))) (mm a M) (mm a M) := ⟨fun b u eb hb => k1 b u eb fun z => hb (.inl z), fun b hb => .inl hb⟩
      refine rd_seq ⟨_, rfl, la, rfl, ⟨_, SqL.of (k1 _ _ eps hlp)⟩, for_list (K := K) (a := la) (xs := ps.map V.ref) (TkI C (upd H a.p (.dK (dropK kvs (Sum.inr o)))) p la a M o bs (alls (dropI I o)) n) ⟨M, none, none, none, rfl, Fr2.refl, hW1.perm (alls_drop h.nd h1)⟩ (fun i σ H2 _ hh => ?_) (fun i x σ H2 hi hh => ?_) fun σ H2 hh => ?_⟩
      · obtain ⟨M2, v3, v4, v5, rfl, f2, w2⟩ := hh
        exact SqL.of (f2.keep _ _ (k1 _ _ eps hlp) nla)
      · obtain ⟨M2, v3, v4, v5, rfl, f2, w2⟩ := hh
        rw [List.getElem?_map] at hi
        cases eq : ps[i]? with
        | none => rw [eq] at hi; cases hi
        | some t =>
          rw [eq] at hi
          cases hi
          obtain ⟨r, er, et⟩ := paired_get rps eq
          have et2 := f2.keep _ _ (ht1 _ _ et) (hW1.tup (ht1 _ _ et))
          have hil := (List.getElem?_eq_some_iff.mp er)
          rw [List.drop_eq_getElem_cons hil.1, hil.2, List.map_cons, List.cons_append] at w2
          obtain ⟨d0, d1, d2⟩ := h.ok _ (look_mem h1) r (List.mem_of_getElem? er)
          refine ⟨t, _, rfl, SqT.of et2, rfl, _, _, rfl, _, _, rfl, _, _, rfl, rfl, ?_⟩
          dsimp only [gName, List.set_cons_zero, List.set_cons_succ]
          have ho2 := f2.keep _ _ (k1 _ _ ho hpp) (hW1.ins (k1 _ _ ho hpp))
          refine rd_expr ⟨_, rfl, p, dx, _, rfl, ho2, if_no a (by decide +kernel) (by decide +kernel) (by decide +kernel), _, rfl, _, rfl, _, rfl, _, rfl, p, a, M2, _, n, o, r.1, r.2.1, r.2.2, rfl, ⟨dx, ho2⟩, w2, d0, d1, d2, fun H3 M3 f3 w3 => ?_⟩
          exact ⟨M3, _, _, _, rfl, f2.trans f3, w3⟩
      · obtain ⟨M2, v3, v4, v5, rfl, f2, w2⟩ := hh
        rw [List.length_map, show ps.length = bs.length from Paired.length rps, List.drop_length] at w2
        have f12 : Fr3 a H H2 M M2 := ⟨fr1.trans (mm_grow f2), fun l o el hm hnp kvs' e' kv hk => by
          rw [f2.keep _ _ upd_same (hW1.dk upd_same)] at e'
          cases e'
          exact hnp kvs e kv (dropK_mem hk)⟩
        refine q1 o rfl rfl H2 M2 f12 ⟨⟨dx, f2.keep _ _ (k1 _ _ ho hpp) (hW1.ins (k1 _ _ ho hpp))⟩, ⟨_, f2.keep _ _ upd_same (hW1.dk upd_same), Nat.le_trans (dropK_le _ _) hl, ?_⟩, w2, dropI_nd h.nd, fun x hx => h.ok x (dropI_mem hx).1⟩
        refine pl_keep (pl_drop hp o) (fun b x nm eb => ?_) fun b x eb => f2.keep _ _ (ht1 _ _ eb) (hW1.tup (ht1 _ _ eb))
        exact f2.lst b x nm (k1 _ _ eb (ne_of eb e (fun z => nomatch z)))
end
end Mine
namespace Mine
open PySem L2
theorem tk_any {C : Addr} {K : PySem.W.Frag} {H : Hp} {p : Addr} {a : IA} {M : Addr → Prop} {I : Ix} {N : Nat} {o : Str} {Q : VK} {E : XK} (h : IxAt C H p a M I N) (q : ∀ c H' M', Fr3 a H H' M M' → IxAt C H' p a M' (dropI I o) N → Q (.bl c) H') : spTake C K [.ref p, .str o] H Q E := by
  cases hl : look I o with
  | none => exact ⟨p, a, M, I, N, _, false, rfl, h, .no o rfl hl, fun _ => q _ H M Fr3.refl (by rw [dropI_no hl]; exact h), fun _ _ z => nomatch z⟩
  | some bs => exact ⟨p, a, M, I, N, _, true, rfl, h, .yes o bs rfl hl, (fun z => nomatch z), fun o' eo _ H' M' f i => by injection eo with eo; subst eo; exact q _ H' M' f i⟩
theorem putK_new {κ : Type} [DecidableEq κ] {kvs : List (κ × V)} {k : κ} {v : V} (h : valV kvs k = none) : putK kvs k v = kvs ++ [(k, v)] := by
  unfold putK
  rw [if_neg (by rw [valV_any, h]; exact Bool.false_ne_true)]
inductive PtI (H1 : Hp) (p lb : Addr) (a : IA) (M : Addr → Prop) (o : Str) (bs : List RwB) (L : List OB) (N : Nat) (i : Nat) (σ : St) (H2 : Hp) : Prop
  | mk (M2 : Addr → Prop) (v3 v4 v5 : Option V) (h1 : σ = [some (.ref p), some (.str o), some (.ref lb), v3, v4, v5]) (h2 : Fr2 H1 H2 M M2) (h3 : WS H2 a M2 (L ++ ((bs.take i).map fun b => (o, b))) (N + i)) : PtI H1 p lb a M o bs L N i σ H2
theorem fld_put {H : Hp} {x n C dx : Addr} {fs fs' : List (Str × V)} {o : HO} (hx : H x = some (.ins C dx fs)) (nn : H n = none) : upd H n o x = some (.ins C dx fs) ∧ upd (upd H n o) x (.ins C dx fs') x = some (.ins C dx fs') ∧ upd (upd H n o) x (.ins C dx fs') n = some o ∧ ∀ b u, H b = some u → b ≠ x → upd (upd H n o) x (.ins C dx fs') b = some u := by
  have e : x ≠ n := ne_of_none hx nn
  refine ⟨by rw [upd_ne e]; exact hx, upd_same, by rw [upd_ne (Ne.symm e), upd_same], fun b u eb hb => ?_⟩
  rw [upd_ne hb, upd_ne (ne_of_none eb nn)]
  exact eb
section
variable {P : Program} {w : World} {K : PySem.W.Frag} {mg : Str → Option Value} {base : Heap}
theorem scPutAll : FnScope ["self", "owner", "boxes", "key", "first", "last"] ["self", "owner", "boxes"] (defScope sPutAll) := ⟨rfl, rfl, rfl, by decide +kernel, rfl, by decide +kernel, by decide +kernel⟩
theorem ok_putAll {f f1 f2 C : Addr} {fd : FuncData} (F : Fun K "put_all" "Index.put_all" sPutAll f fd) (N : Free mg) (T : IxC K C) {fd1 : FuncData} (MT : MC P w K mg base C "take" 4 ["self", "owner"] [] [] (spTake C K) f1 fd1) {fd2 : FuncData} (MP : MC P w K mg base C "place_box" 3 ["self", "owner", "key", "first", "last"] [] [] (spPlace C) f2 fd2) : FnOk P w K mg base CX0 5 f fd ["self", "owner", "boxes"] (spPutAll C) := by
  refine F.ok (k := 4) scPutAll (fun vs H Q E h => ?_) (fun cdv A outer s H vs Q E hr h => ?_)
  · obtain ⟨p, a, M, I, n, o, lb, bs, rfl, _⟩ := h
    rfl
  · obtain ⟨p, a, M, I, n, o, lb, bs, rfl, h, hb, nlb, hd, hn, q⟩ := h
    have hu := hu_of hr
    refine ⟨_, (pss_cons (ps_expr (pe_meth (pv 0) MT.cl MT.mt MT.ok (hr.mono (by decide)) MT.bd MT.dv pass0 (pa_cons (pv 1) pa_nil)))
      (pss_cons (ps_dput hu (pe_fld (pv 0) rfl) (pv 1) (pe_callTy call_list_of (by rfl) N.list PyProof.Rows.Boot.«list» (pa_cons (pv 2) pa_nil)) rfl)
      (pss_one (ps_for PassesOwn.never rfl (pi_list (pv 2)) (pg_tup rfl (pgs_cons (pg_name (i := 3) scPutAll.nd rfl (Or.inl rfl)) (pgs_cons (pg_name (i := 4) scPutAll.nd rfl (Or.inl rfl)) (pgs_cons (pg_name (i := 5) scPutAll.nd rfl (Or.inl rfl)) pgs_nil))))
      (pss_one (ps_expr (pe_meth (pv 0) MP.cl MP.mt MP.ok (hr.mono (by decide)) MP.bd MP.dv pass0 (pa_cons (pv 1) (pa_cons (pv 3) (pa_cons (pv 4) (pa_cons (pv 5) pa_nil))))))))))), ?_⟩
    obtain ⟨dx, ho⟩ := h.ob
    obtain ⟨kvs0, e0, _, _⟩ := h.pl
    refine rd_seq (rd_expr ⟨_, rfl, p, dx, _, rfl, ho, if_no a (by decide +kernel) (by decide +kernel) (by decide +kernel), _, rfl, ?_⟩)
    dsimp only [tNil, List.cons_append, List.nil_append, List.append_nil]
    refine tk_any h fun c H1 M1 f1 h1 => ?_
    try dsimp only
    obtain ⟨ps, eps, rps⟩ := hb
    have nmt : ∀ b x, H b = some (.tup x) → ¬ mm a M b := fun b x e z => z.elim (fun z => by rw [z, e0] at e; cases e) (h.ws.tup e)
    have nml : ¬ mm a M lb := fun z => z.elim (fun z => by rw [z, e0] at eps; cases eps) nlb
    have eps1 := f1.fr.keep _ _ eps nml
    have nlb1 : ¬ M1 lb := fun z => (f1.fr.new lb (.inr z)).elim nml fun z => by rw [eps] at z; cases z
    obtain ⟨dx1, ho1⟩ := h1.ob
    obtain ⟨kvs, e, hl, hp⟩ := h1.pl
    have hv : valV kvs (Sum.inr o) = none := by
      rcases pl_look hp o with ⟨z, _⟩ | ⟨la, bs', _, _, _, z⟩
      · exact z
      · rw [look_drop, if_pos rfl] at z; cases z
    have hpp : p ≠ a.p := ne_of ho1 e (fun z => nomatch z)
    refine rd_seq ⟨_, rfl, lb, _, rfl, .inl (SqL.of eps1), fun l nl => ?_⟩
    have kl := keepN (v := .lst (ps.map V.ref)) nl
    refine ⟨_, rfl, p, C, dx1, _, _, rfl, kl _ _ ho1, T.cl, T.n1, if_p a, _, rfl, a.p, _, rfl, DPut.k (k := Sum.inr o) (kl _ _ e) (by have := h.ws.nn; rw [sizeLine_eq]; omega), ?_⟩
    rw [putK_new hv]
    dsimp only
    have k2 : ∀ b u, H1 b = some u → b ≠ a.p → upd (upd H1 l (.lst (ps.map V.ref))) a.p (.dK (kvs ++ [(Sum.inr o, .ref l)])) b = some u := fun b u eb hb => by rw [upd_ne hb]; exact kl _ _ eb
    have hlp : l ≠ a.p := Ne.symm (ne_of_none e nl)
    have npd : ¬ M1 a.p := h1.ws.dk e
    have nl1 : ¬ M1 l := fun z => by rcases h1.ws.mt l z with ⟨x, q⟩ | ⟨x, q⟩ <;> (rw [nl] at q; cases q)
    have el2 : upd (upd H1 l (.lst (ps.map V.ref))) a.p (.dK (kvs ++ [(Sum.inr o, .ref l)])) l = some (.lst (ps.map V.ref)) := by rw [upd_ne hlp, upd_same]
    have ht1 : ∀ b x, H b = some (.tup x) → H1 b = some (.tup x) := fun b x eb => f1.fr.keep _ _ eb (nmt b x eb)
    have ht2 : ∀ b x, H1 b = some (.tup x) → upd (upd H1 l (.lst (ps.map V.ref))) a.p (.dK (kvs ++ [(Sum.inr o, .ref l)])) b = some (.tup x) := fun b x eb => k2 b _ eb (ne_of eb e (fun z => nomatch z))
    generalize hH2 : upd (upd H1 l (.lst (ps.map V.ref))) a.p (.dK (kvs ++ [(Sum.inr o, .ref l)])) = H2 at k2 el2 ht2 ⊢
    have ep2 : H2 a.p = some (.dK (kvs ++ [(Sum.inr o, .ref l)])) := by rw [← hH2, upd_same]
    have hW2 : WS H2 a M1 (alls (dropI I o)) n := h1.ws.keep fun b u eb hb => k2 b u eb fun z => hb.elim (fun m => npd (z ▸ m)) fun ⟨x, ex⟩ => by rw [z, e, ex] at eb; cases eb
    have hlbp : lb ≠ a.p := ne_of eps1 e (fun z => nomatch z)
    have ho2 := k2 _ _ ho1 hpp
    have f02 : Fr3 a H H2 M M1 := f1.trans ⟨⟨fun b u eb hb => k2 b u eb fun z => hb (.inl z), fun b hb => .inl hb⟩, fun l0 o0 el hm hnp kvs' e' kv hk => by
      rw [ep2] at e'
      cases e'
      rcases List.mem_append.mp hk with hk | hk
      · exact hnp kvs e kv hk
      · rw [List.mem_singleton.mp hk]
        intro z
        injection z with z
        rw [← z, nl] at el; cases el⟩
    refine ⟨_, rfl, lb, rfl, ⟨_, SqL.of (k2 _ _ eps1 hlbp)⟩, for_list (K := K) (a := lb) (xs := ps.map V.ref) (PtI H2 p lb a M1 o bs (alls (dropI I o)) n) ⟨M1, none, none, none, rfl, Fr2.refl, by rw [List.take_zero, List.map_nil, List.append_nil]; exact hW2⟩ (fun i σ H3 _ hh => ?_) (fun i x σ H3 hi hh => ?_) fun σ H3 hh => ?_⟩
    · obtain ⟨M2, v3, v4, v5, rfl, f3, w3⟩ := hh
      exact SqL.of (f3.keep _ _ (k2 _ _ eps1 hlbp) nlb1)
    · obtain ⟨M2, v3, v4, v5, rfl, f3, w3⟩ := hh
      rw [List.getElem?_map] at hi
      cases eq : ps[i]? with
      | none => rw [eq] at hi; cases hi
      | some t =>
        rw [eq] at hi
        cases hi
        obtain ⟨r, er, et⟩ := paired_get rps eq
        have et2 := ht2 _ _ (ht1 _ _ et)
        have et3 := f3.keep _ _ et2 (hW2.tup et2)
        have hil := (List.getElem?_eq_some_iff.mp er).1
        obtain ⟨d0, d1, d2⟩ := hd r (List.mem_of_getElem? er)
        refine ⟨t, _, rfl, SqT.of et3, rfl, _, _, rfl, _, _, rfl, _, _, rfl, rfl, ?_⟩
        dsimp only [gName, List.set_cons_zero, List.set_cons_succ]
        have ho3 := f3.keep _ _ ho2 (hW2.ins ho2)
        refine rd_expr ⟨_, rfl, p, dx1, _, rfl, ho3, if_no a (by decide +kernel) (by decide +kernel) (by decide +kernel), _, rfl, _, rfl, _, rfl, _, rfl, p, a, M2, _, _, o, r.1, r.2.1, r.2.2, rfl, ⟨dx1, ho3⟩, w3, by omega, d0, d1, d2, fun H4 M4 f4 w4 => ?_⟩
        refine ⟨M4, _, _, _, rfl, f3.trans f4, w4.perm ?_⟩
        rw [List.take_add_one, er, List.map_append, ← List.append_assoc]
        exact List.perm_append_comm (l₁ := [_])
    · obtain ⟨M2, v3, v4, v5, rfl, f3, w3⟩ := hh
      rw [List.length_map, show ps.length = bs.length from Paired.length rps, List.take_length, ← alls_snoc] at w3
      have np2 := hW2.dk ep2
      refine q H3 M2 (f02.trans (Fr3.of f3 ep2 np2)) ⟨⟨dx1, f3.keep _ _ ho2 (hW2.ins ho2)⟩, ⟨_, f3.keep _ _ ep2 np2, by rw [List.length_append, List.length_singleton]; omega, ?_⟩, w3.more (by omega) (by omega), ?_, fun x hx => ?_⟩
      · have hp2 : Paired (PlR H2 M1) (kvs ++ [(Sum.inr o, .ref l)]) (dropI I o ++ [(o, bs)]) := paired_snoc (pl_keep hp (fun b x nm eb => ⟨k2 _ _ eb (ne_of eb e (fun z => nomatch z)), nm⟩) ht2) ⟨rfl, l, rfl, nl1, ps, el2, Paired.mapP rps fun _ _ e => ht2 _ _ (ht1 _ _ e)⟩
        exact pl_keep hp2 f3.lst fun b x eb => f3.keep _ _ eb (hW2.tup eb)
      · rw [List.map_append, List.nodup_append]
        refine ⟨dropI_nd h.nd, by simp, fun x hx y hy => ?_⟩
        simp only [List.map_cons, List.map_nil, List.mem_singleton] at hy
        have hno := dropI_not I o
        exact fun z => hno ((z.trans hy) ▸ hx)
      · rcases List.mem_append.mp hx with hx | hx
        · exact h.ok x (dropI_mem hx).1
        · rw [List.mem_singleton.mp hx]; exact hd
end
section
variable {P : Program} {w : World} {K : PySem.W.Frag} {mg : Str → Option Value} {base : Heap}
end
def ini (a : IA) (b : Addr) : Prop := b = a.s ∨ b = a.w
def spInitI (C : Addr) : Sp := fun vs H Q _ => ∃ (x dx : Addr), vs = [.ref x] ∧ H x = some (.ins C dx []) ∧ ∀ (a : IA) (H' : Hp), (∀ b, mm a (ini a) b → H b = none) → (∀ b o, H b = some o → b ≠ x → H' b = some o) → IxAt C H' x a (ini a) [] 0 → Q .non H'
section
variable {P : Program} {w : World} {K : PySem.W.Frag} {mg : Str → Option Value} {base : Heap}
theorem scInit : FnScope ["self"] ["self"] (defScope sInit) := ⟨rfl, rfl, rfl, by decide +kernel, rfl, by decide +kernel, by decide +kernel⟩
theorem ok_init {f C : Addr} {fd : FuncData} (F : Fun K "__init__" "Index.__init__" sInit f fd) (T : IxC K C) : FnOk P w K mg base CX0 1 f fd ["self"] (spInitI C) := by
  refine F.ok (k := 0) scInit (fun vs H Q E h => ?_) (fun cdv A outer s H vs Q E hr h => ?_)
  · obtain ⟨x, dx, rfl, _⟩ := h
    rfl
  · obtain ⟨x, dx, rfl, hx, q⟩ := h
    have hu := hu_of hr
    refine ⟨_, (pss_cons (ps_fld (pv 0) pe_dnewK rfl)
      (pss_cons (ps_fld (pv 0) pe_dnewT rfl)
      (pss_one (ps_fld (pv 0) pe_dnewT rfl)))), ?_⟩
    refine rd_seq fun ap np => ?_
    obtain ⟨a0, a1, a2, a3⟩ := fld_put (fs' := putF "placed" (.ref ap) []) (o := .dK []) hx np
    refine ⟨_, rfl, x, C, dx, _, rfl, a0, T.cl, T.n1, (by show 0 < 1000; decide), ?_⟩
    have hxp : ap ≠ x := fun z => by rw [z, hx] at np; cases np
    generalize hH1 : upd (upd H ap (.dK [])) x (.ins C dx (putF "placed" (.ref ap) [])) = H1 at a1 a2 a3 ⊢
    dsimp only
    refine rd_seq fun as ns => ?_
    obtain ⟨b0, b1, b2, b3⟩ := fld_put (fs' := putF "standing" (.ref as) (putF "placed" (.ref ap) [])) (o := .dT []) a1 ns
    refine ⟨_, rfl, x, C, dx, _, rfl, b0, T.cl, T.n2, (by have := length_putF "placed" (V.ref ap) []; simp only [List.length_nil] at this; omega), ?_⟩
    have hxs : as ≠ x := fun z => by rw [z, a1] at ns; cases ns
    have c2 := b3 _ _ a2 hxp
    generalize hH2 : upd (upd H1 as (.dT [])) x (.ins C dx (putF "standing" (.ref as) (putF "placed" (.ref ap) []))) = H2 at b1 b2 b3 c2 ⊢
    dsimp only
    intro aw nw
    obtain ⟨d0, d1, d2, d3⟩ := fld_put (fs' := putF "weights" (.ref aw) (putF "standing" (.ref as) (putF "placed" (.ref ap) []))) (o := .dT []) b1 nw
    refine ⟨_, rfl, x, C, dx, _, rfl, d0, T.cl, T.n3, (by have h1 := length_putF "standing" (V.ref as) (putF "placed" (V.ref ap) []); have := length_putF "placed" (V.ref ap) []; simp only [List.length_nil] at this; omega), ?_⟩
    have e3 := d3 _ _ c2 hxp
    have e4 := d3 _ _ b2 hxs
    have fr : ∀ b o, H b = some o → b ≠ x → upd (upd H2 aw (.dT [])) x (.ins C dx (putF "weights" (.ref aw) (putF "standing" (.ref as) (putF "placed" (.ref ap) [])))) b = some o := fun b o e h => d3 _ _ (b3 _ _ (a3 _ _ e h) h) h
    have no : ∀ b, H2 b = none → H b = none := fun b e => by
      cases eb : H b with
      | none => rfl
      | some o =>
        by_cases z : b = x
        · rw [z, b1] at e; cases e
        · rw [b3 _ _ (a3 _ _ eb z) z] at e; cases e
    have no1 : ∀ b, H1 b = none → H b = none := fun b e => by
      cases eb : H b with
      | none => rfl
      | some o =>
        by_cases z : b = x
        · rw [z, a1] at e; cases e
        · rw [a3 _ _ eb z] at e; cases e
    have sw : as ≠ aw := ne_of_none b2 nw
    refine q ⟨ap, as, aw⟩ _ (fun b hb => ?_) fr ⟨⟨dx, by rw [upd_same]; exact congrArg (fun f => some (HO.ins C dx f)) (if_put ⟨ap, as, aw⟩)⟩, ⟨[], e3, Nat.le_refl _, .nil⟩, ⟨⟨[], d2, Nat.zero_le _, fun _ _ => rfl⟩, ⟨[], e4, Nat.zero_le _, fun k n => .no rfl rfl, (fun _ _ _ _ _ z => nomatch z)⟩, sw, .inl rfl, .inr rfl, fun b hb => ?_, Nat.le_refl _, by decide⟩, List.nodup_nil, (fun _ z => nomatch z)⟩
    · rcases hb with rfl | rfl | rfl
      · exact np
      · exact no1 _ ns
      · exact no _ nw
    · rcases hb with rfl | rfl
      · exact .inl ⟨[], e4⟩
      · exact .inl ⟨[], d2⟩
end
end Mine
namespace L2
open PySem PySem.Spec PyProof.Rows
theorem look_step (T : Int → Bool) (f l : Int) (j : Nat) (k : Int) : lookL T f l j k = if T k then k :: ((below j k f l).reverse.flatMap fun n => lookL T f l (j - 1) n) else [] := by
  cases j with
  | zero => rw [lookL, below]; rfl
  | succ j =>
    rw [lookL, below]
    by_cases hT : T k = true
    · rw [if_pos hT, if_pos hT]
      congr 1
      show _ = List.flatMap (fun n => lookL T f l j n) _
      by_cases c1 : f + 1 < k
      · by_cases c2 : k < l + 1
        · rw [if_pos c1, if_pos c2, if_pos c1, if_pos c2]; simp
        · rw [if_pos c1, if_neg c2, if_pos c1, if_neg c2]; simp
      · by_cases c2 : k < l + 1
        · rw [if_neg c1, if_pos c2, if_neg c1, if_pos c2]; simp
        · rw [if_neg c1, if_neg c2, if_neg c1, if_neg c2]; simp
    · rw [if_neg hT, if_neg hT]
def muW (ws : List (Nat × Int)) : Nat := (ws.map fun x => 2 ^ (x.1 + 1) - 1).sum
theorem muW_snoc (ws : List (Nat × Int)) (x : Nat × Int) : muW (ws ++ [x]) = muW ws + (2 ^ (x.1 + 1) - 1) := by
  unfold muW; rw [List.map_append, List.sum_append]; simp
theorem muW_len (ws : List (Nat × Int)) : ws.length ≤ muW ws := by
  induction ws with
  | nil => exact Nat.le_refl _
  | cons x ws ih =>
    have e : muW (x :: ws) = (2 ^ (x.1 + 1) - 1) + muW ws := rfl
    have p : 2 ≤ 2 ^ (x.1 + 1) := by rw [Nat.pow_succ]; have : 1 ≤ 2 ^ x.1 := Nat.one_le_two_pow; omega
    rw [e, List.length_cons]
    omega
def lowW (j : Nat) (xs : List Int) : List (Nat × Int) := xs.map fun n => (j - 1, n)
theorem muW_below (ws : List (Nat × Int)) (j : Nat) (k f l : Int) : muW (ws ++ lowW j (below j k f l)) < muW (ws ++ [(j, k)]) := by
  have e : ∀ a b, muW (a ++ b) = muW a + muW b := fun a b => by unfold muW; rw [List.map_append, List.sum_append]
  rw [e, e]
  have p : 1 ≤ 2 ^ j := Nat.one_le_two_pow
  cases j with
  | zero =>
    have h1 : muW (lowW 0 (below 0 k f l)) = 0 := rfl
    have h2 : muW [((0 : Nat), k)] = 1 := rfl
    omega
  | succ j =>
    have h2 : muW [(j + 1, k)] = 2 ^ (j + 1 + 1) - 1 := by unfold muW; simp
    have q : 1 ≤ 2 ^ (j + 1) := Nat.one_le_two_pow
    have h3 : muW (lowW (j + 1) (below (j + 1) k f l)) ≤ 2 * (2 ^ (j + 1) - 1) := by
      rw [below]
      unfold muW lowW
      by_cases c1 : f + 1 < k
      · by_cases c2 : k < l + 1
        · rw [if_pos c1, if_pos c2]; simp; omega
        · rw [if_pos c1, if_neg c2]; simp; omega
      · by_cases c2 : k < l + 1
        · rw [if_neg c1, if_pos c2]; simp; omega
        · rw [if_neg c1, if_neg c2]; simp
    have p2 : 2 ^ (j + 1 + 1) = 2 * 2 ^ (j + 1) := by rw [Nat.pow_succ, Nat.mul_comm]
    omega
theorem below_lev {j : Nat} {k f l : Int} (L : Kn.Lev j k) {n : Int} (h : n ∈ below j k f l) : Kn.Lev (j - 1) n := by
  cases j with
  | zero => cases h
  | succ j =>
    rw [below] at h
    rcases List.mem_append.mp h with h | h
    · split at h
      · rw [List.mem_singleton.mp h]; exact L.left
      · cases h
    · split at h
      · rw [List.mem_singleton.mp h]; exact L.right
      · cases h
def todo (T : Int → Bool) (f l : Int) (ws : List (Nat × Int)) : List Int := ws.reverse.flatMap fun x => lookL T f l x.1 x.2
theorem todo_no {T : Int → Bool} {f l : Int} {ws : List (Nat × Int)} {j : Nat} {k : Int} (h : T k = false) : todo T f l (ws ++ [(j, k)]) = todo T f l ws := by
  unfold todo
  rw [List.reverse_append]
  show lookL T f l j k ++ _ = _
  rw [look_step, h]
  rfl
theorem todo_yes {T : Int → Bool} {f l : Int} {ws : List (Nat × Int)} {j : Nat} {k : Int} (h : T k = true) : todo T f l (ws ++ [(j, k)]) = k :: todo T f l (ws ++ lowW j (below j k f l)) := by
  unfold todo lowW
  rw [List.reverse_append, List.reverse_append, List.flatMap_append, List.flatMap_append, ← List.map_reverse, List.flatMap_map]
  have e : List.flatMap (fun x : Nat × Int => lookL T f l x.1 x.2) [(j, k)].reverse = lookL T f l j k := by simp
  rw [e, look_step, if_pos h]
  rfl
theorem nd_len {α : Type} [DecidableEq α] : ∀ {xs ys : List α}, xs.Nodup → (∀ x ∈ xs, x ∈ ys) → xs.length ≤ ys.length
  | [], _, _, _ => Nat.zero_le _
  | x :: xs, ys, nd, h => by
    have hx := h x List.mem_cons_self
    rw [List.nodup_cons] at nd
    have ih := nd_len (ys := ys.erase x) nd.2 fun y hy => (List.mem_erase_of_ne (show y ≠ x from fun z => nd.1 (z ▸ hy))).mpr (h y (List.mem_cons_of_mem _ hy))
    rw [List.length_erase_of_mem hx] at ih
    have := List.length_pos_of_mem hx
    rw [List.length_cons]
    omega
structure OsAt (H : Hp) (od : Addr) (S : Str → Prop) : Prop where
  ex : ∃ (kvs : List (Key × V)) (os : List Str), H od = some (.dK kvs) ∧ kvs.map (·.1) = os.map Sum.inr ∧ os.Nodup ∧ ∀ o, o ∈ os ↔ S o
theorem OsAt.keep {H H' : Hp} {od : Addr} {S S' : Str → Prop} (h : OsAt H od S) (e : ∀ u, H od = some u → H' od = some u) (hs : ∀ o, S' o ↔ S o) : OsAt H' od S' := by
  obtain ⟨kvs, os, e1, e2, e3, e4⟩ := h.ex
  exact ⟨kvs, os, e _ e1, e2, e3, fun o => (e4 o).trans (hs o).symm⟩
theorem OsAt.put {H' : Hp} {od : Addr} {S S' : Str → Prop} {kvs : List (Key × V)} {os : List Str} {o : Str} {v : V} (e2 : kvs.map (·.1) = os.map Sum.inr) (e3 : os.Nodup) (e4 : ∀ o, o ∈ os ↔ S o) (e : H' od = some (.dK (putK kvs (Sum.inr o) v))) (hs : ∀ x, S' x ↔ S x ∨ x = o) : OsAt H' od S' := by
  by_cases hm : o ∈ os
  · refine ⟨_, os, e, ?_, e3, fun x => ?_⟩
    · unfold putK
      have : (kvs.any fun kv => decide (kv.1 = (Sum.inr o : Key))) = true := by
        have : (Sum.inr o : Key) ∈ kvs.map (·.1) := by rw [e2]; exact List.mem_map_of_mem hm
        obtain ⟨kv, hk, ek⟩ := List.mem_map.mp this
        exact List.any_eq_true.mpr ⟨kv, hk, decide_eq_true ek⟩
      rw [if_pos this, List.map_map, ← e2]
      refine List.map_congr_left fun kv _ => ?_
      show (if kv.1 = Sum.inr o then (kv.1, v) else kv).1 = kv.1
      split <;> rfl
    · rw [e4, hs]
      exact ⟨.inl, fun h => h.elim id fun z => z ▸ (e4 o).mp hm⟩
  · have hn : valV kvs (Sum.inr o : Key) = none := by
      cases hv : valV kvs (Sum.inr o : Key) with
      | none => rfl
      | some y =>
        have := valV_in hv
        rw [e2] at this
        obtain ⟨z, hz, ez⟩ := List.mem_map.mp this
        injection ez with ez
        exact absurd (ez ▸ hz) hm
    refine ⟨_, os ++ [o], e, ?_, ?_, fun x => ?_⟩
    · unfold putK
      rw [if_neg (by rw [valV_any, hn]; exact Bool.false_ne_true), List.map_append, List.map_append, e2]
      rfl
    · rw [List.nodup_append]
      exact ⟨e3, by simp, fun x hx y hy z => hm (by rw [← List.mem_singleton.mp hy, ← z]; exact hx)⟩
    · rw [List.mem_append, List.mem_singleton, e4, hs]
end L2
namespace Mine
open PySem L2
def spPut (C : Addr) (K : PySem.W.Frag) : Sp := fun vs H Q _ => ∃ (p : Addr) (a : IA) (M : Addr → Prop) (I : Ix) (N : Nat) (o : Str) (lb : Addr) (bs : List RwB), vs = [.ref p, .str o, .ref lb] ∧ IxAt C H p a M I N ∧ OwnerV K H (.str o) true ∧ BxL H lb bs ∧ ¬ M lb ∧ (∀ x ∈ bs, BxOk x) ∧ bs.length ≤ 400 ∧ N + bs.length < 100000 ∧
  ∀ (H' : Hp) (M' : Addr → Prop), Fr3 a H H' M M' → IxAt C H' p a M' (dropI I o ++ [(o, bs)]) (N + bs.length + 1) → Q .non H'
def spPutX (C CN CB : Addr) (K : PySem.W.Frag) : Sp := fun vs H _ E => ∃ (p : Addr) (v x : V) (dx : Addr) (a : IA), vs = [.ref p, v, x] ∧ H p = some (.ins C dx (iflds a)) ∧ ((OwnerV K H v false ∧ Refuses CN [("name", v)] H E) ∨ (OwnerV K H v true ∧ BoxesV K H x false ∧ Refuses CB [] H E))
theorem boxes_good {K : PySem.W.Frag} {H : Hp} {lb : Addr} {bs : List RwB} (h : BxL H lb bs) (ok : ∀ x ∈ bs, BxOk x) (hl : bs.length ≤ 400) : BoxesV K H (.ref lb) true := by
  obtain ⟨ps, e, r⟩ := h
  have hlen : ps.length = bs.length := Paired.length r
  have hp : Paired (fun x c => BoxV K H x c) (ps.map V.ref) (List.replicate bs.length true) := by
    clear e hl hlen
    induction r with
    | nil => exact .nil
    | @cons p r ps bs a t ih =>
      rw [List.map_cons, List.length_cons, List.replicate_succ]
      exact .cons (BoxV.good a (ok _ List.mem_cons_self)) (ih fun x hx => ok x (List.mem_cons_of_mem _ hx))
  have q := BoxesV.all (K := K) (H := H) (x := .ref lb) lb (ps.map V.ref) (List.replicate bs.length true) rfl e (by rw [List.length_map]; omega) hp
  rwa [show (List.replicate bs.length true).all id = true from by simp] at q
theorem Refuses.grow {C : Addr} {fs : List (Str × V)} {H H1 : Hp} {E : XK} (h : Refuses C fs H E) (g : Grow H H1) : Refuses C fs H1 E := fun a H' g' na x => h a H' (fun b o e => g' b o (g b o e)) (Grow.free g na) x
theorem BxOk.day {r : RwB} (h : BxOk r) : DayOk r := ⟨h.2.2.1, h.2.2.2.1, h.2.2.2.2⟩
section
variable {P : Program} {w : World} {K : PySem.W.Frag} {mg : Str → Option Value} {base : Heap}
theorem scPut : FnScope ["self", "owner", "boxes"] ["self", "owner", "boxes"] (defScope sPut) := ⟨rfl, rfl, rfl, by decide +kernel, rfl, by decide +kernel, by decide +kernel⟩
theorem ok_put {f f1 f2 f3 C : Addr} {fd : FuncData} (F : Fun K "put" "Index.put" sPut f fd) (T : IxC K C) {fd1 : FuncData} (CO : Cal P w K mg base "is_owner" 1 ["thing"] (spOwnerA K) f1 fd1) {fd2 : FuncData} (CA : Cal P w K mg base "are_boxes" 4 ["thing"] (spAreBoxes K) f2 fd2) {fd3 : FuncData} (MP : MC P w K mg base C "put_all" 5 ["self", "owner", "boxes"] [] [] (spPutAll C) f3 fd3) : FnOk P w K mg base CX0 6 f fd ["self", "owner", "boxes"] (spPut C K) := by
  refine F.ok (k := 5) scPut (fun vs H Q E h => ?_) (fun cdv A outer s H vs Q E hr h => ?_)
  · obtain ⟨p, a, M, I, n, o, lb, bs, rfl, _⟩ := h
    rfl
  · obtain ⟨p, a, M, I, n, o, lb, bs, rfl, h, hv, hb, nlb, hd, hl, hn, q⟩ := h
    have hu := hu_of hr
    refine ⟨_, (pss_cons (ps_if (pt_not (pt_val (pe_call CO.ok (hr.mono (by decide)) rfl CO.nm CO.kp CO.bd .nil pass0 (pa_cons (pv 1) pa_nil)))) (pss_one ps_never) pss_nil)
      (pss_cons (ps_if (pt_not (pt_val (pe_call CA.ok (hr.mono (by decide)) rfl CA.nm CA.kp CA.bd .nil pass0 (pa_cons (pv 2) pa_nil)))) (pss_one ps_never) pss_nil)
      (pss_one (ps_expr (pe_meth (pv 0) MP.cl MP.mt MP.ok (hr.mono (by decide)) MP.bd MP.dv pass0 (pa_cons (pv 1) (pa_cons (pv 2) pa_nil))))))), ?_⟩
    refine rd_seq (rd_if ⟨_, rfl, .str o, true, rfl, hv, _, rfl, iteF (rd_next ?_)⟩)
    dsimp only
    refine rd_seq (rd_if ⟨_, rfl, .ref lb, true, rfl, boxes_good hb hd hl, fun H1 g1 => ⟨_, rfl, iteF (rd_next ?_)⟩⟩)
    dsimp only
    have h1 := h.keep g1
    obtain ⟨dx, ho⟩ := h1.ob
    obtain ⟨kvs0, e0, _⟩ := h.pl
    exact rd_expr ⟨_, rfl, p, dx, _, rfl, ho, if_no a (by decide +kernel) (by decide +kernel) (by decide +kernel), _, rfl, _, rfl, p, a, M, I, n, o, lb, bs, rfl, h1, hb.keep (fun x e => g1 _ _ e) (fun b x e => g1 _ _ e), nlb, fun x hx => (hd x hx).day, hn, fun H' M' f i => q H' M' ((Fr3.grow g1 e0).trans f) i⟩
end
section
variable {P : Program} {w : World} {K : PySem.W.Frag} {mg : Str → Option Value} {base : Heap}
theorem ok_putX {f f1 f2 f3 f4 C CN CB U : Addr} {fd : FuncData} (F : Fun K "put" "Index.put" sPut f fd) (T : IxC K C) {fd1 : FuncData} (CO : Cal P w K mg base "is_owner" 1 ["thing"] (spOwnerA K) f1 fd1) {fd2 : FuncData} (CA : Cal P w K mg base "are_boxes" 4 ["thing"] (spAreBoxes K) f2 fd2) {fd3 : FuncData} (MP : MC P w K mg base C "put_all" 5 ["self", "owner", "boxes"] [] [] (spPutAll C) f3 fd3) {fd4 : FuncData} (RN : Rf1 P w K mg base "NoName" CN U "name" f4 fd4) (RB : Rf0 K mg "NoBox" CB U) : FnOk P w K mg base (CXR P w) 6 f fd ["self", "owner", "boxes"] (spPutX C CN CB K) := by
  refine F.okX (k := 5) scPut (fun vs H Q E h => ?_) (fun cdv A outer s H vs Q E hr h => ?_)
  · obtain ⟨p, v, x, dx, a, rfl, _⟩ := h
    rfl
  · obtain ⟨p, v, x, dx, a, rfl, ho, hh⟩ := h
    have hu := hu_of hr
    refine ⟨_, (pss_cons (ps_if (pt_not (pt_val (pe_call CO.ok (hr.mono (by decide)) rfl CO.nm CO.kp CO.bd .nil pass0 (pa_cons (pv 1) pa_nil)))) (pss_one (ps_rf1 RN (hr.mono (by decide)) rfl (pv 1))) pss_nil)
      (pss_cons (ps_if (pt_not (pt_val (pe_call CA.ok (hr.mono (by decide)) rfl CA.nm CA.kp CA.bd .nil pass0 (pa_cons (pv 2) pa_nil)))) (pss_one (ps_rf0 RB rfl)) pss_nil)
      (pss_one (ps_expr (pe_meth (pv 0) MP.cl MP.mt MP.ok (hr.mono (by decide)) MP.bd MP.dv pass0 (pa_cons (pv 1) (pa_cons (pv 2) pa_nil))))))), ?_⟩
    rcases hh with ⟨hv, q⟩ | ⟨hv, hx, q⟩
    · exact rd_seq (rd_if ⟨_, rfl, v, false, rfl, hv, _, rfl, iteT (rd_rf1 RN.cl RN.nf rfl q)⟩)
    · refine rd_seq (rd_if ⟨_, rfl, v, true, rfl, hv, _, rfl, iteF (rd_next ?_)⟩)
      dsimp only
      exact rd_seq (rd_if ⟨_, rfl, x, false, rfl, hx, fun H1 g1 => ⟨_, rfl, iteT (rd_rf0 RB.cl (Refuses.grow q g1))⟩⟩)
end
def spLooked (C : Addr) : Sp := fun vs H Q _ => ∃ (p : Addr) (a : IA) (M : Addr → Prop) (L : List OB) (N : Nat) (k : Str) (f l : Int), vs = [.ref p, .str k, .int f, .int l] ∧ (∃ dx, H p = some (.ins C dx (iflds a))) ∧ WS H a M L N ∧
  ∀ (r : Addr) (H' : Hp), H r = none → Grow H H' → H' r = some (.lst ((lookL (fun n => decide (0 < wt L k n)) f l 8 256).map V.int)) → Q (.ref r) H'
inductive LkW (H : Hp) (p lk lw : Addr) (k : Str) (f l : Int) (T : Int → Bool) (m : Nat) (σ : St) (H2 : Hp) : Prop
  | mk (dn : List Int) (ws : List (Nat × Int)) (v6 : Option V) (h1 : σ = [some (.ref p), some (.str k), some (.int f), some (.int l), some (.ref lk), some (.ref lw), v6]) (h2 : Grow H H2) (h3 : H2 lk = some (.lst (dn.map V.int))) (h4 : H2 lw = some (.lst ((ws.map (·.2)).map V.int)))
    (h5 : ∀ x ∈ ws, Kn.Lev x.1 x.2) (h6 : dn ++ todo T f l ws = lookL T f l 8 256) (h7 : m = muW ws) (h8 : muW ws ≤ 511) : LkW H p lk lw k f l T m σ H2
theorem wtV_some (c : Nat) : (wtV c).isSome = decide (0 < c) := by
  unfold wtV
  by_cases h : c = 0
  · rw [if_pos h, decide_eq_false (by omega)]; rfl
  · rw [if_neg h, decide_eq_true (by omega)]; rfl
section
variable {P : Program} {w : World} {K : PySem.W.Frag} {mg : Str → Option Value} {base : Heap}
theorem scLooked : FnScope ["self", "key", "first", "last", "looked", "waiting", "knot"] ["self", "key", "first", "last"] (defScope sLooked) := ⟨rfl, rfl, rfl, by decide +kernel, rfl, by decide +kernel, by decide +kernel⟩
theorem ok_looked {f f1 C : Addr} {fd : FuncData} (F : Fun K "looked_at" "Index.looked_at" sLooked f fd) (Z : Con mg) (T : IxC K C) {fd1 : FuncData} (CB : Cal P w K mg base "knots_below" 1 ["knot", "first", "last"] spBelow f1 fd1) : FnOk P w K mg base CX0 2 f fd ["self", "key", "first", "last"] (spLooked C) := by
  obtain ⟨t1, c1⟩ := Z.top
  refine F.ok (k := 1) scLooked (fun vs H Q E h => ?_) (fun cdv A outer s H vs Q E hr h => ?_)
  · obtain ⟨p, a, M, L, n, k, f, l, rfl, _⟩ := h
    rfl
  · obtain ⟨p, a, M, L, n, k, f, l, rfl, ⟨dx, ho⟩, h, q⟩ := h
    have hu := hu_of hr
    refine ⟨_, (pss_cons (ps_set (i := 4) scLooked.nd rfl (Or.inl rfl) (pe_lst pa_nil))
      (pss_cons (ps_set (i := 5) scLooked.nd rfl (Or.inl rfl) (pe_lst (pa_cons (pe_glob (v := .int 256) (by rfl) c1 ⟨_, rfl⟩) pa_nil)))
      (pss_cons (ps_while PassesOwn.never (pt_truth (pv 5) (fun _ => rfl)) (pss_cons (ps_set (i := 6) scLooked.nd rfl (Or.inl rfl) (pe_bm0 PySem.F.plainAttrs_list PySem.F.slot_list_pop PySem.F.type_list_pop mt_pop (pv 5)))
      (pss_one (ps_if (pt_cmp (pc_din hu (pe_tup (pa_cons (pv 1) (pa_cons (pv 6) pa_nil))) (pe_fld (pv 0) rfl))) (pss_cons (ps_expr (pe_bm PySem.F.plainAttrs_list PySem.F.slot_list_append PySem.F.type_list_append mt_append (pv 4) (pa_cons (pv 6) pa_nil)))
      (pss_one (ps_expr (pe_bm PySem.F.plainAttrs_list PySem.F.slot_list_extend PySem.F.type_list_extend mt_extend (pv 5) (pa_cons (pe_call CB.ok (hr.mono (by decide)) rfl CB.nm CB.kp CB.bd .nil pass0 (pa_cons (pv 6) (pa_cons (pv 2) (pa_cons (pv 3) pa_nil)))) pa_nil))))) pss_nil))))
      (pss_one (ps_ret (pv 4)))))), ?_⟩
    refine rd_seq (rd_asg ⟨by show 0 ≤ sizeLine; decide, fun lk nlk => ?_⟩)
    dsimp only [gName]
    refine rd_seq (rd_asg ⟨by show 1 ≤ sizeLine; decide, fun lw nlw => ?_⟩)
    dsimp only [gName]
    have hkw : lk ≠ lw := fun z => by rw [← z, upd_same] at nlw; cases nlw
    have nlw0 : H lw = none := by
      cases e : H lw with
      | none => rfl
      | some v => rw [upd_ne (ne_of_none e nlk), e] at nlw; cases nlw
    refine rd_seq (rd_while (LkW H p lk lw k f l (fun n => decide (0 < wt L k n))) (m := 511) ⟨[], [(8, 256)], none, rfl, fun b o e => by rw [upd_ne (ne_of_none e nlw0), upd_ne (ne_of_none e nlk)]; exact e, by rw [upd_ne hkw, upd_same]; rfl, upd_same, fun x hx => by rw [List.mem_singleton.mp hx]; exact Kn.Lev.top, by simp [todo], rfl, by decide⟩ fun m σ H2 hW => ?_)
    obtain ⟨dn, ws, v6, rfl, g, ek, ew, hL, hd, rfl, h511⟩ := hW
    refine ⟨_, rfl, _, .inl ⟨_, SqL.of ew, rfl⟩, ?_⟩
    dsimp only
    rcases List.eq_nil_or_concat ws with rfl | ⟨ws', x, hws⟩
    · refine iteF ⟨_, rfl, q lk H2 nlk g ?_⟩
      rw [ek, ← hd]
      show _ = some (HO.lst ((dn ++ []).map V.int))
      rw [List.append_nil]
    · rw [List.concat_eq_append] at hws
      subst hws
      obtain ⟨j, kn⟩ := x
      have Lk : Kn.Lev j kn := hL (j, kn) (List.mem_append_right _ (List.mem_singleton.mpr rfl))
      have hne : ((((ws' ++ [(j, kn)]).map (·.2)).map V.int).isEmpty) = false := by simp
      rw [hne]
      have hlen := muW_len (ws' ++ [(j, kn)])
      rw [List.length_append, List.length_singleton] at hlen
      have ew' : (((ws' ++ [(j, kn)]).map (·.2)).map V.int) = (ws'.map (·.2)).map V.int ++ [.int kn] := by simp
      rw [ew'] at ew
      refine iteT ⟨_, fun _ _ h => h, rd_seq (rd_asg ⟨_, rfl, .inl ⟨rfl, _, SqL.of ew⟩, lw, _, .int kn, rfl, rfl, ew, by simp, ?_⟩)⟩
      rw [List.dropLast_concat]
      dsimp only [gName, List.set_cons_zero, List.set_cons_succ]
      have kp : ∀ b o, H2 b = some o → b ≠ lw → upd H2 lw (.lst ((ws'.map (·.2)).map V.int)) b = some o := fun b o e hb => by rw [upd_ne hb]; exact e
      have hpw : p ≠ lw := ne_of_none ho nlw0
      obtain ⟨wd, ewd, _, vwd⟩ := h.hw.ex
      have haw : a.w ≠ lw := ne_of_none ewd nlw0
      refine rd_if ⟨_, rfl, _, rfl, by show 2 ≤ sizeLine; decide, fun t nt => ?_⟩
      have kt := keepN (v := .tup [V.str k, V.int kn]) nt
      refine ⟨_, rfl, p, C, dx, _, _, rfl, (kt _ _ (kp _ _ (g _ _ ho) hpw)), T.cl, T.n3, if_w a, a.w, _, rfl, DGet.t (k := kk k kn) (kt _ _ (kp _ _ (g _ _ ewd) haw)) upd_same, ?_⟩
      rw [vwd, wtV_some]
      refine ⟨_, rfl, ?_⟩
      try dsimp only
      by_cases hT : decide (0 < wt L k kn) = true
      · rw [hT]
        have eka := kt _ _ (kp _ _ ek hkw)
        have hdn : dn.length ≤ 511 := by
          have := lookL_len (fun n => decide (0 < wt L k n)) f l 8 256
          rw [← hd, List.length_append] at this
          have : 2 ^ (8 + 1) = 512 := rfl
          omega
        refine iteT (rd_seq (rd_expr ⟨_, rfl, .inl ⟨rfl, _, SqL.of eka⟩, _, rfl, lk, _, _, rfl, rfl, eka, by rw [List.length_map]; exact small1000 (by omega), ?_⟩))
        dsimp only
        have htk : t ≠ lk := Ne.symm (ne_of_none (kp _ _ ek hkw) nt)
        have htw : t ≠ lw := fun z => by rw [z, upd_same] at nt; cases nt
        have ewa : upd (upd (upd H2 lw (.lst ((ws'.map (·.2)).map V.int))) t (.tup [V.str k, V.int kn])) lk (.lst (dn.map V.int ++ [.int kn])) lw = some (.lst ((ws'.map (·.2)).map V.int)) := by rw [upd_ne (Ne.symm hkw), upd_ne (Ne.symm htw), upd_same]
        refine rd_expr ⟨_, rfl, .inl ⟨rfl, _, SqL.of ewa⟩, _, rfl, _, rfl, _, rfl, j, kn, f, l, rfl, Lk, fun bl nbl => ?_⟩
        have kb := keepN (v := .lst ((below j kn f l).map V.int)) nbl
        have hb2 := below_len j kn f l
        refine ⟨lw, bl, _, _, rfl, rfl, kb _ _ ewa, upd_same, by rw [List.length_map, List.length_map, List.length_map]; refine Nat.le_of_lt (small1000 ?_); omega, ?_⟩
        refine ⟨muW (ws' ++ lowW j (below j kn f l)), muW_below _ _ _ _ _, dn ++ [kn], ws' ++ lowW j (below j kn f l), _, rfl, fun b o e => ?_, ?_, ?_, fun x hx => ?_, ?_, rfl, Nat.le_of_lt (Nat.lt_of_lt_of_le (muW_below _ _ _ _ _) h511)⟩
        · have eb := g _ _ e
          have b1 : b ≠ lw := ne_of_none e nlw0
          have b2 : b ≠ lk := ne_of_none e nlk
          rw [upd_ne b1]
          refine kb _ _ ?_
          rw [upd_ne b2]
          exact kt _ _ (kp _ _ eb b1)
        · rw [upd_ne hkw]
          refine kb _ _ ?_
          rw [upd_same, List.map_append]; rfl
        · rw [upd_same, List.map_append, List.map_append, show (lowW j (below j kn f l)).map (·.2) = below j kn f l from by unfold lowW; rw [List.map_map]; exact List.map_id _]
        · rcases List.mem_append.mp hx with hx | hx
          · exact hL x (List.mem_append_left _ hx)
          · obtain ⟨m', hm, rfl⟩ := List.mem_map.mp hx
            exact below_lev Lk hm
        · rw [← hd, todo_yes hT, List.append_assoc]; rfl
      · have hT : decide (0 < wt L k kn) = false := by simpa using hT
        rw [hT]
        refine iteF (rd_next ⟨muW ws', ?_, dn, ws', _, rfl, fun b o e => ?_, kt _ _ (kp _ _ ek hkw), kt _ _ upd_same, fun x hx => hL x (List.mem_append_left _ hx), ?_, rfl, ?_⟩)
        · rw [muW_snoc]
          have : 1 ≤ 2 ^ j := Nat.one_le_two_pow
          show muW ws' < muW ws' + (2 ^ (j + 1) - 1)
          rw [Nat.pow_succ]
          omega
        · exact kt _ _ (kp _ _ (g _ _ e) (ne_of_none e nlw0))
        · rw [← hd, todo_no hT]
        · rw [muW_snoc] at h511
          omega
end
def spCheck : Sp := fun vs H Q _ => ∃ (f l : Int), vs = [.int f, .int l] ∧ 0 ≤ f ∧ f ≤ l ∧ l < 400 ∧ Q .non H
section
variable {P : Program} {w : World} {K : PySem.W.Frag} {mg : Str → Option Value} {base : Heap}
theorem scCheck : FnScope ["first", "last"] ["first", "last"] (defScope sCheck) := ⟨rfl, rfl, rfl, by decide +kernel, rfl, by decide +kernel, by decide +kernel⟩
theorem ok_check {f f1 f2 : Addr} {fd : FuncData} (F : Fun K "check_stretch" "check_stretch" sCheck f fd) (Z : Con mg) {fd1 : FuncData} (CW : Cal P w K mg base "is_whole" 1 ["thing", "low", "high"] (spWholeA K) f1 fd1) {fd2 : FuncData} (CY : Cal P w K mg base "is_day" 2 ["thing"] (spDayA K) f2 fd2) : FnOk P w K mg base CX0 3 f fd ["first", "last"] spCheck := by
  obtain ⟨t1, c1⟩ := Z.lastday
  refine F.ok (k := 2) scCheck (fun vs H Q E h => ?_) (fun cdv A outer s H vs Q E hr h => ?_)
  · obtain ⟨f, l, rfl, _⟩ := h
    rfl
  · obtain ⟨f, l, rfl, h0, h1, h2, q⟩ := h
    have hu := hu_of hr
    refine ⟨_, (pss_cons (ps_if (pt_not (pt_val (pe_call CY.ok (hr.mono (by decide)) rfl CY.nm CY.kp CY.bd .nil pass0 (pa_cons (pv 0) pa_nil)))) (pss_one ps_never) pss_nil)
      (pss_one (ps_if (pt_not (pt_val (pe_call CW.ok (hr.mono (by decide)) rfl CW.nm CW.kp CW.bd .nil pass0 (pa_cons (pv 1) (pa_cons (pv 0) (pa_cons (pe_glob (v := .int 399) (by rfl) c1 ⟨_, rfl⟩) pa_nil)))))) (pss_one ps_never) pss_nil))), ?_⟩
    refine rd_seq (rd_if ⟨_, rfl, .int f, true, rfl, .at h0 (by omega), _, rfl, iteF (rd_next ?_)⟩)
    dsimp only
    exact rd_if ⟨_, rfl, _, rfl, .int l, f, 399, true, rfl, .at h1 (by omega), _, rfl, iteF (rd_next q)⟩
end
end Mine
namespace Mine
open PySem L2
def Meets (L : List OB) (k : Str) (f l : Int) (o : Str) : Prop := ∃ x ∈ L, x.1 = o ∧ x.2.1 = k ∧ x.2.2.1 ≤ l ∧ f ≤ x.2.2.2
def Hit (f l : Int) (o : Str) (r : RwB) : Prop := r.1 = o ∧ r.2.1 ≤ l ∧ f ≤ r.2.2
def SeenN (L : List OB) (k : Str) (f l : Int) (ns : List Int) (o : Str) : Prop := ∃ n ∈ ns, ∃ r ∈ stL L k n, Hit f l o r
def looked (L : List OB) (k : Str) (f l : Int) : List Int := lookL (fun n => decide (0 < wt L k n)) f l 8 256
theorem seen_meets {L : List OB} {k : Str} {f l : Int} {ns : List Int} {o : Str} (h : SeenN L k f l ns o) : Meets L k f l o := by
  obtain ⟨n, _, r, hr, h1, h2, h3⟩ := h
  obtain ⟨x, hx, ha, rfl⟩ := mem_stL.mp hr
  exact ⟨x, hx, h1, ha.1, h2, h3⟩
theorem meets_seen {L : List OB} {k : Str} {f l : Int} {o : Str} (ok : ∀ x ∈ L, DayOk x.2) (h : Meets L k f l o) : SeenN L k f l (looked L k f l) o := by
  obtain ⟨x, hx, h1, h2, h3, h4⟩ := h
  obtain ⟨d0, d1, d2⟩ := ok x hx
  refine ⟨knot x.2.2.1 x.2.2.2, ?_, rowOf x, mem_stL.mpr ⟨x, hx, ⟨h2, rfl⟩, rfl⟩, h1, h3, h4⟩
  refine way_looked (f' := x.2.2.1) (l' := x.2.2.2) h4 h3 8 256 (Kn.Under.top d0 d1 d2) (fun n hn => decide_eq_true (wt_pos.mpr ⟨x, hx, h2, hn⟩)) _ (knot_mem _ _)
theorem meets_owner {L : List OB} {k : Str} {f l : Int} {o : Str} (h : Meets L k f l o) : o ∈ L.map (·.1) := by
  obtain ⟨x, hx, h1, _⟩ := h
  exact h1 ▸ List.mem_map_of_mem (f := fun y : OB => y.1) hx
theorem alls_owner {I : Ix} {o : Str} (h : o ∈ (alls I).map (·.1)) : o ∈ I.map (·.1) := by
  obtain ⟨x, hx, rfl⟩ := List.mem_map.mp h
  obtain ⟨y, hy, hx⟩ := List.mem_flatMap.mp hx
  obtain ⟨r, _, rfl⟩ := List.mem_map.mp hx
  exact List.mem_map_of_mem (f := fun z : Str × List RwB => z.1) hy
theorem alls_ok {I : Ix} (h : ∀ x ∈ I, ∀ b ∈ x.2, DayOk b) : ∀ x ∈ alls I, DayOk x.2 := fun x hx => by
  obtain ⟨y, hy, hx⟩ := List.mem_flatMap.mp hx
  obtain ⟨r, hr, rfl⟩ := List.mem_map.mp hx
  exact h y hy r hr
def spMeeting (C : Addr) (K : PySem.W.Frag) : Sp := fun vs H Q _ => ∃ (p : Addr) (a : IA) (M : Addr → Prop) (I : Ix) (N : Nat) (k : Str) (f l : Int), vs = [.ref p, .str k, .int f, .int l] ∧ IxAt C H p a M I N ∧ NameV K H (.str k) true ∧ 0 ≤ f ∧ f ≤ l ∧ l < 400 ∧ I.length < 64 ∧
  ∀ (t lo : Addr) (H' : Hp) (os : List Str), Grow H H' → H lo = none → H' t = some (.tup [.ref lo, .int ((looked (alls I) k f l).length : Int)]) → H' lo = some (.lst (os.map V.str)) → PyProof.Rows.sortedS os = true → os.Nodup → (∀ o, o ∈ os ↔ Meets (alls I) k f l o) → Q (.ref t) H'
inductive MtI (H3 : Hp) (p lk od : Addr) (k : Str) (f l : Int) (S : Nat → Str → Prop) (i : Nat) (σ : St) (H2 : Hp) : Prop
  | mk (v6 v7 v8 v9 : Option V) (h1 : σ = [some (.ref p), some (.str k), some (.int f), some (.int l), some (.ref lk), some (.ref od), v6, v7, v8, v9]) (h2 : ∀ b o, H3 b = some o → b ≠ od → H2 b = some o) (h3 : OsAt H2 od (S i)) : MtI H3 p lk od k f l S i σ H2
theorem rows_of {H : Hp} {M : Addr → Prop} {v : Option V} {rs : List RwB} {e : Addr} (h : RowsAt H M v rs) (he : H e = some (.lst [])) : ∃ la ps qs, v.getD (.ref e) = .ref la ∧ H la = some (.lst (ps.map V.ref)) ∧ RowB H ps qs ∧ qs.Perm rs := by
  cases h with
  | no h1 h2 => exact ⟨e, [], [], by rw [h1]; rfl, he, .nil, by rw [h2]⟩
  | yes ra ps qs h1 h2 h3 h4 h5 h6 => exact ⟨ra, ps, qs, by rw [h1]; rfl, h3, h4, h5⟩
theorem seen_next {L : List OB} {k : Str} {f l : Int} {ns : List Int} {i : Nat} {n : Int} (h : ns[i]? = some n) (o : Str) : SeenN L k f l (ns.take (i + 1)) o ↔ SeenN L k f l (ns.take i) o ∨ ∃ r ∈ stL L k n, Hit f l o r := by
  unfold SeenN
  rw [List.take_add_one, h]
  simp only [Option.toList_some, List.mem_append, List.mem_singleton]
  constructor
  · rintro ⟨m, hm | rfl, r, hr, hh⟩
    · exact .inl ⟨m, hm, r, hr, hh⟩
    · exact .inr ⟨r, hr, hh⟩
  · rintro (⟨m, hm, r, hr, hh⟩ | ⟨r, hr, hh⟩)
    · exact ⟨m, .inl hm, r, hr, hh⟩
    · exact ⟨n, .inr rfl, r, hr, hh⟩
section
variable {P : Program} {w : World} {K : PySem.W.Frag} {mg : Str → Option Value} {base : Heap}
theorem scMeeting : FnScope ["self", "key", "first", "last", "looked", "owners", "knot", "owner", "start", "end"] ["self", "key", "first", "last"] (defScope sMeeting) := ⟨rfl, rfl, rfl, by decide +kernel, rfl, by decide +kernel, by decide +kernel⟩
theorem ok_meeting {f f1 f2 f3 C : Addr} {fd : FuncData} (F : Fun K "meeting" "Index.meeting" sMeeting f fd) (N : Free mg) (T : IxC K C) {fd1 : FuncData} (CN : Cal P w K mg base "is_name" 2 ["thing"] (spNameA K) f1 fd1) {fd2 : FuncData} (CC : Cal P w K mg base "check_stretch" 3 ["first", "last"] spCheck f2 fd2) {fd3 : FuncData} (ML : MC P w K mg base C "looked_at" 2 ["self", "key", "first", "last"] [] [] (spLooked C) f3 fd3) : FnOk P w K mg base CX0 4 f fd ["self", "key", "first", "last"] (spMeeting C K) := by
  refine F.ok (k := 3) scMeeting (fun vs H Q E h => ?_) (fun cdv A outer s H vs Q E hr h => ?_)
  · obtain ⟨p, a, M, I, n, k, f, l, rfl, _⟩ := h
    rfl
  · obtain ⟨p, a, M, I, n, k, f, l, rfl, h, hk, h0, h1, h2, h64, q⟩ := h
    have hu := hu_of hr
    refine ⟨_, (pss_cons (ps_if (pt_not (pt_val (pe_call CN.ok (hr.mono (by decide)) rfl CN.nm CN.kp CN.bd .nil pass0 (pa_cons (pv 1) pa_nil)))) (pss_one ps_never) pss_nil)
      (pss_cons (ps_expr (pe_call CC.ok (hr.mono (by decide)) rfl CC.nm CC.kp CC.bd .nil pass0 (pa_cons (pv 2) (pa_cons (pv 3) pa_nil))))
      (pss_cons (ps_set (i := 4) scMeeting.nd rfl (Or.inl rfl) (pe_meth (pv 0) ML.cl ML.mt ML.ok (hr.mono (by decide)) ML.bd ML.dv pass0 (pa_cons (pv 1) (pa_cons (pv 2) (pa_cons (pv 3) pa_nil)))))
      (pss_cons (ps_set (i := 5) scMeeting.nd rfl (Or.inl rfl) pe_dnewK)
      (pss_cons (ps_for PassesOwn.never rfl (pi_list (pv 4)) (pg_name (i := 6) scMeeting.nd rfl (Or.inl rfl))
      (pss_one (ps_for PassesOwn.never rfl (pi_list (pe_dget2 hu (pe_fld (pv 0) rfl) (pe_tup (pa_cons (pv 1) (pa_cons (pv 6) pa_nil))) (pe_lst pa_nil) ⟨rfl, rfl, rfl, rfl⟩)) (pg_tup rfl (pgs_cons (pg_name (i := 7) scMeeting.nd rfl (Or.inl rfl)) (pgs_cons (pg_name (i := 8) scMeeting.nd rfl (Or.inl rfl)) (pgs_cons (pg_name (i := 9) scMeeting.nd rfl (Or.inl rfl)) pgs_nil))))
      (pss_one (ps_if (PW.pt (pw_and (pt_cmpR op_le (pv 8) (pv 3) (nomark _)) (pw_and1 (pt_cmpR op_le (pv 2) (pv 9) (nomark _))))) (pss_one (ps_dput hu (pv 5) (pv 7) pe_bl rfl)) pss_nil)))))
      (pss_one (ps_ret (pe_tup (pa_cons (pe_callB (call_sortedD hr.hd) (by rfl) N.sorted PyProof.Rows.Boot.«sorted» (pa_cons (pv 5) pa_nil)) (pa_cons (pe_callB call_len_seq (by rfl) N.len PySem.boot_len (pa_cons (pv 4) pa_nil)) pa_nil)))))))))), ?_⟩
    refine rd_seq (rd_if ⟨_, rfl, .str k, true, rfl, hk, fun H1 g1 => ⟨_, rfl, iteF (rd_next ?_)⟩⟩)
    dsimp only
    refine rd_seq (rd_expr ⟨_, rfl, _, rfl, f, l, rfl, h0, h1, h2, ?_⟩)
    dsimp only
    have hI1 := h.keep g1
    obtain ⟨dx, ho⟩ := hI1.ob
    refine rd_seq (rd_asg ⟨_, rfl, p, dx, _, rfl, ho, if_no a (by decide +kernel) (by decide +kernel) (by decide +kernel), _, rfl, _, rfl, _, rfl, p, a, M, _, n, k, f, l, rfl, ⟨dx, ho⟩, hI1.ws, fun lk H2 nlk g2 elk => ?_⟩)
    dsimp only [gName]
    refine rd_seq (rd_asg fun od nod => ?_)
    dsimp only [gName]
    have hI2 := hI1.keep g2
    have hI3 := hI2.keep (keepN (v := .dK []) nod)
    have elk3 := keepN (v := .dK []) nod _ _ elk
    have g03 : Grow H (upd H2 od (.dK [])) := (g1.trans g2).trans (Grow.new nod)
    have elk : (lookL (fun n => decide (0 < wt (alls I) k n)) f l 8 256) = looked (alls I) k f l := rfl
    rw [elk] at elk3
    generalize hH3 : upd H2 od (.dK []) = H3 at hI3 elk3 g03 ⊢
    have eod3 : H3 od = some (.dK []) := by rw [← hH3, upd_same]
    have hlo : lk ≠ od := ne_of elk3 eod3 (fun z => nomatch z)
    obtain ⟨ss, es, sl, sr, si⟩ := hI3.ws.hs.ex
    have hso : a.s ≠ od := ne_of es eod3 (fun z => nomatch z)
    obtain ⟨dx3, ho3⟩ := hI3.ob
    have hpo : p ≠ od := ne_of ho3 eod3 (fun z => nomatch z)
    have many : ∀ {kvs : List (Key × V)} {os : List Str} {S : Str → Prop}, kvs.map (·.1) = os.map Sum.inr → os.Nodup → (∀ o, o ∈ os ↔ S o) → (∀ o, S o → Meets (alls I) k f l o) → os.length ≤ I.length ∧ kvs.length = os.length := fun {kvs os S} e2 e3 e4 e5 =>
      ⟨by have := nd_len (ys := I.map (·.1)) e3 fun o ho => alls_owner (meets_owner (e5 o ((e4 o).mp ho))); rwa [List.length_map] at this, by have := congrArg List.length e2; simpa using this⟩
    refine rd_seq ⟨_, rfl, lk, rfl, ⟨_, SqL.of elk3⟩, for_list (K := K) (a := lk) (xs := (looked (alls I) k f l).map V.int) (MtI H3 p lk od k f l (fun i o => SeenN (alls I) k f l ((looked (alls I) k f l).take i) o)) ⟨none, none, none, none, rfl, fun _ _ e _ => e, [], [], eod3, rfl, List.nodup_nil, fun o => ⟨(fun z => nomatch z), fun ⟨n, z, _⟩ => nomatch z⟩⟩ (fun i σ H4 _ hh => ?_) (fun i x σ H4 hi hh => ?_) fun σ H4 hh => ?_⟩
    · obtain ⟨v6, v7, v8, v9, rfl, e2, e3⟩ := hh
      exact SqL.of (e2 _ _ elk3 hlo)
    · obtain ⟨v6, v7, v8, v9, rfl, e2, e3⟩ := hh
      rw [List.getElem?_map] at hi
      cases en : (looked (alls I) k f l)[i]? with
      | none => rw [en] at hi; cases hi
      | some kn =>
        rw [en] at hi
        cases hi
        dsimp only [gName, List.set_cons_zero, List.set_cons_succ]
        refine ⟨_, rfl, p, C, dx3, _, _, rfl, e2 _ _ ho3 hpo, T.cl, T.n2, if_s a, a.s, rfl, .inr ⟨ss, .inl (e2 _ _ es hso)⟩, _, rfl, _, rfl, by show 2 ≤ sizeLine; decide, fun t nt => ⟨by show 0 ≤ sizeLine; decide, fun em nem => ?_⟩⟩
        have kt := keepN (v := .tup [V.str k, V.int kn]) nt
        have ke := keepN (v := .lst []) nem
        refine ⟨_, DGet.t (k := kk k kn) (ke _ _ (kt _ _ (e2 _ _ es hso))) (ke _ _ upd_same), ?_⟩
        have eod : ∀ u, H4 od = some u → upd (upd H4 t (.tup [V.str k, V.int kn])) em (.lst []) od = some u := fun u e => ke _ _ (kt _ _ e)
        have k5 : ∀ b o, H3 b = some o → b ≠ od → upd (upd H4 t (.tup [V.str k, V.int kn])) em (.lst []) b = some o := fun b o e hb => ke _ _ (kt _ _ (e2 _ _ e hb))
        have e3 := e3.keep eod (fun _ => Iff.rfl)
        have eem : upd (upd H4 t (.tup [V.str k, V.int kn])) em (.lst []) em = some (.lst []) := upd_same
        generalize upd (upd H4 t (.tup [V.str k, V.int kn])) em (.lst []) = H5 at k5 e3 eem ⊢
        have ht5 : ∀ b x, H3 b = some (.tup x) → H5 b = some (.tup x) := fun b x e => k5 _ _ e (ne_of e eod3 (fun z => nomatch z))
        have rr := (sr k kn).mono (H' := H5) (M' := M) (fun _ z => z) (fun b x _ _ e => k5 _ _ e (ne_of e eod3 (fun z => nomatch z))) ht5
        obtain ⟨la, ps, qs, ev, ela, hq, hp⟩ := rows_of rr eem
        have nlo : la ≠ od := fun z => by
          obtain ⟨kvs, os, x1, _⟩ := e3.ex
          rw [z, x1] at ela; cases ela
        refine ⟨la, ev, ⟨_, SqL.of ela⟩, for_list (K := K) (a := la) (xs := ps.map V.ref) (MtI H5 p lk od k f l (fun j o => SeenN (alls I) k f l ((looked (alls I) k f l).take i) o ∨ ∃ r ∈ qs.take j, Hit f l o r)) ⟨_, _, _, _, rfl, fun _ _ e _ => e, e3.keep (fun _ z => z) fun o => ⟨fun z => z.elim id fun ⟨_, w, _⟩ => (nomatch w), .inl⟩⟩ (fun j σ H6 _ hh => ?_) (fun j x σ H6 hj hh => ?_) fun σ H6 hh => ?_⟩
        · obtain ⟨w6, w7, w8, w9, rfl, e6, e7⟩ := hh
          exact SqL.of (e6 _ _ ela nlo)
        · obtain ⟨w6, w7, w8, w9, rfl, e6, e7⟩ := hh
          rw [List.getElem?_map] at hj
          cases ep : ps[j]? with
          | none => rw [ep] at hj; cases hj
          | some pt =>
            rw [ep] at hj
            cases hj
            obtain ⟨r, er, et⟩ := paired_get hq ep
            have nto : pt ≠ od := fun z => by
              obtain ⟨kvs, os, x1, _⟩ := e3.ex
              rw [z, x1] at et; cases et
            have et6 := e6 _ _ et nto
            refine ⟨pt, _, rfl, SqT.of et6, rfl, _, _, rfl, _, _, rfl, _, _, rfl, rfl, ?_⟩
            dsimp only [gName, List.set_cons_zero, List.set_cons_succ]
            have nx : ∀ o, (∃ r' ∈ qs.take (j + 1), Hit f l o r') ↔ (∃ r' ∈ qs.take j, Hit f l o r') ∨ Hit f l o r := fun o => by
              rw [List.take_add_one, er]
              simp only [Option.toList_some, List.mem_append, List.mem_singleton]
              constructor
              · rintro ⟨r', hr | rfl, hh⟩
                · exact .inl ⟨r', hr, hh⟩
                · exact .inr hh
              · rintro (⟨r', hr, hh⟩ | hh)
                · exact ⟨r', .inl hr, hh⟩
                · exact ⟨r, .inr rfl, hh⟩
            have skip : ¬ (r.2.1 ≤ l ∧ f ≤ r.2.2) → ∀ o, (SeenN (alls I) k f l ((looked (alls I) k f l).take i) o ∨ ∃ r' ∈ qs.take (j + 1), Hit f l o r') ↔ (SeenN (alls I) k f l ((looked (alls I) k f l).take i) o ∨ ∃ r' ∈ qs.take j, Hit f l o r') := fun hn o => by
              rw [nx]
              exact ⟨fun z => z.elim .inl fun z => z.elim .inr fun z => absurd z.2 hn, fun z => z.elim .inl fun z => .inr (.inl z)⟩
            refine rd_if ⟨_, rfl, _, rfl, _, _, rfl, rfl, _, rfl, ite2 (fun c1 => ⟨_, rfl, _, rfl, _, _, rfl, rfl, _, rfl, ite2 (fun c2 => ?_) fun c2 => ?_⟩) fun c1 => iteF ?_⟩
            · have c1 := of_decide_eq_true c1
              have c2 := of_decide_eq_true c2
              obtain ⟨kvs, os, x1, x2, x3, x4⟩ := e7.ex
              have hm : os.length ≤ I.length ∧ kvs.length = os.length := many x2 x3 x4 fun o ho => ho.elim seen_meets fun ⟨r', hr, hh⟩ => by
                obtain ⟨x, hx, ha, rfl⟩ := mem_stL.mp (hp.mem_iff.mp (List.mem_of_mem_take hr))
                exact ⟨x, hx, hh.1, ha.1, hh.2.1, hh.2.2⟩
              refine ⟨_, rfl, _, rfl, od, _, rfl, DPut.k (k := Sum.inr r.1) x1 (by rw [sizeLine_eq]; omega), _, _, _, _, rfl, fun b o e hb => by rw [upd_ne hb]; exact e6 _ _ e hb, OsAt.put x2 x3 x4 upd_same fun o => ?_⟩
              rw [nx]
              exact ⟨fun z => z.elim (fun z => .inl (.inl z)) fun z => z.elim (fun z => .inl (.inr z)) fun z => .inr z.1.symm, fun z => z.elim (fun z => z.elim .inl fun z => .inr (.inl z)) fun z => .inr (.inr ⟨z.symm, c1, c2⟩)⟩
            · exact rd_next ⟨_, _, _, _, rfl, e6, e7.keep (fun _ z => z) (skip fun z => c2 (decide_eq_true z.2))⟩
            · exact rd_next ⟨_, _, _, _, rfl, e6, e7.keep (fun _ z => z) (skip fun z => c1 (decide_eq_true z.1))⟩
        · obtain ⟨w6, w7, w8, w9, rfl, e6, e7⟩ := hh
          rw [List.length_map, show ps.length = qs.length from Paired.length hq, List.take_length] at e7
          refine ⟨_, _, _, _, rfl, fun b o e hb => e6 _ _ (k5 _ _ e hb) hb, e7.keep (fun _ z => z) fun o => ?_⟩
          rw [seen_next en]
          exact ⟨fun z => z.imp id fun ⟨r, hr, hh⟩ => ⟨r, hp.mem_iff.mpr hr, hh⟩, fun z => z.imp id fun ⟨r, hr, hh⟩ => ⟨r, hp.mem_iff.mp hr, hh⟩⟩
    · obtain ⟨v6, v7, v8, v9, rfl, e2, e3⟩ := hh
      rw [List.length_map, List.take_length] at e3
      obtain ⟨kvs, os, x1, x2, x3, x4⟩ := e3.ex
      have hm := many x2 x3 x4 fun o ho => seen_meets ho
      dsimp only
      refine rd_ret ⟨_, rfl, od, kvs, os, rfl, .inl x1, x2, by omega, fun lo os' nlo hp hs => ?_⟩
      have kl := keepN (v := .lst (os'.map V.str)) nlo
      refine ⟨_, rfl, lk, _, rfl, .inl (SqL.of (kl _ _ (e2 _ _ elk3 hlo))), by show 2 ≤ sizeLine; decide, fun t nt => ?_⟩
      rw [List.length_map]
      have kt := keepN (v := .tup [V.ref lo, V.int ((looked (alls I) k f l).length : Int)]) nt
      have nod0 : H od = none := by
        cases e : H od with
        | none => rfl
        | some o => rw [g2 _ _ (g1 _ _ e)] at nod; cases nod
      refine q t lo _ os' (fun b o e => kt _ _ (kl _ _ (e2 _ _ (g03 _ _ e) (ne_of_none e nod0)))) ?_ upd_same (kt _ _ upd_same) hs (hp.nodup_iff.mpr x3) fun o => ?_
      · cases e : H lo with
        | none => rfl
        | some o => rw [e2 _ _ (g03 _ _ e) (ne_of_none e nod0)] at nlo; cases nlo
      · rw [hp.mem_iff, x4]
        exact ⟨seen_meets, meets_seen (alls_ok h.ok)⟩
end
end Mine
namespace L2
open PySem PySem.Spec PyProof.Rows
section
variable {X : Cx}
inductive rMulS (x y : V) (H : Hp) (Q : VK) : Prop
  | mk (i k) (h1 : x = .str i) (h2 : y = .int k) (h3 : MulOk i k) (h4 : Q (.str (Txt.mul i k)) H) : rMulS x y H Q
theorem op_mul_str : OpR X (binaryOp .Mult) rMulS := by
  intro pins s σ H x y v u Q I rx ry h
  obtain ⟨i, k, rfl, rfl, hz, q⟩ := h
  obtain ⟨t, rfl⟩ := rx
  obtain ⟨t', rfl⟩ := ry
  exact SB.mul hz fun t' tk => ⟨.str _, H, I.tok _, ⟨_, rfl⟩, q⟩
end
section
variable {X : Cx}
end
abbrev xs400 : Str := Txt.mul (Str.ofString "x") 400
abbrev xs399 : Str := Txt.mul (Str.ofString "x") 399
theorem mulok {k : Int} (h0 : 1 < k) (h1 : k < 1000) : MulOk (Str.ofString "x") k := by
  refine ⟨?_, fun _ _ => ?_, fun _ _ => ?_⟩
  · rw [decide_eq_false (by omega), decide_eq_false (by omega)]; rfl
  · show ¬ ((1 : Nat) : Int) > _
    have : (1 : Int) ≤ (2 ^ 63 - 1) / k := (Int.le_ediv_iff_mul_le (by omega)).mpr (by omega)
    omega
  · show decide _ = false
    refine decide_eq_false ?_
    show ¬ (1 * k.toNat > _)
    rw [sizeLine_eq]
    omega
end L2
namespace Mine
open PySem L2
abbrev sMix : Stmt := top 28
abbrev sNumbers : Stmt := top 29
abbrev sWide : Stmt := top 30
abbrev sRest : Stmt := top 31
abbrev sKeys : Stmt := top 32
abbrev sOwnersL : Stmt := top 33
abbrev sBoxesL : Stmt := top 34
def spMix : Sp := fun vs H Q _ => ∃ (c k : Int), vs = [.int c, .int k] ∧ ∀ n : Int, 0 ≤ n → n < 2147483587 → Q (.int n) H
def spWide : Sp := fun vs H Q _ => ∃ (c : Int), vs = [.int c] ∧ ∀ d : Bool, Q (.bl d) H
def spRest : Sp := fun vs H Q _ => ∃ (c k : Int), vs = [.int c, .int k] ∧ 0 < k ∧ k < 1000 ∧ ∀ n : Int, Q (.int n) H
section
variable {P : Program} {w : World} {K : PySem.W.Frag} {mg : Str → Option Value} {base : Heap}
theorem scMix : FnScope ["_law_cell", "_law_k", "_law_number"] ["_law_cell", "_law_k"] (defScope sMix) := ⟨rfl, rfl, rfl, by decide +kernel, rfl, by decide +kernel, by decide +kernel⟩
theorem ok_mix {f : Addr} {fd : FuncData} (F : Fun K "_law_mix" "_law_mix" sMix f fd)  : FnOk P w K mg base CX0 1 f fd ["_law_cell", "_law_k"] spMix := by
  refine F.ok (k := 0) scMix (fun vs H Q E h => ?_) (fun cdv A outer s H vs Q E hr h => ?_)
  · obtain ⟨c, k, rfl, _⟩ := h
    rfl
  · obtain ⟨c, k, rfl, q⟩ := h
    have hu := hu_of hr
    refine ⟨_, (pss_cons (ps_set (i := 2) scMix.nd rfl (Or.inl rfl) (pe_op op_mod (pe_op op_mul (pe_op op_add (pe_op op_add (pe_op op_mod (pv 0) pe_int) (pe_op op_mul pe_int (pv 1))) pe_int) pe_int) pe_int))
      (pss_cons (ps_set (i := 2) scMix.nd rfl (Or.inl rfl) (pe_op op_mod (pe_op op_mul (pv 2) (pv 2)) pe_int))
      (pss_one (ps_ret (pe_op op_mod (pe_op op_mul (pv 2) (pe_op op_add (pv 2) pe_int)) pe_int))))), ?_⟩
    have small : ∀ (x : Int) {m : Int}, 0 < m → m < 2 ^ 64 → -(2 ^ 64) < x % m ∧ x % m < 2 ^ 64 := fun x m h1 h2 => by
      have a := Int.emod_nonneg x (Int.ne_of_gt h1)
      have b := Int.emod_lt_of_pos x h1
      omega
    refine ⟨_, rfl, _, _, rfl, rfl, (by show (0 : Int) < 2147483629; decide), _, rfl, _, _, rfl, rfl, .inl ⟨by decide, by decide⟩, _, _, rfl, rfl, _, _, rfl, rfl, _, _, rfl, rfl, .inr ⟨by decide, by decide⟩, _, _, rfl, rfl, (by show (0 : Int) < 2147483647; decide), ?_⟩
    refine ⟨_, rfl, _, rfl, _, _, rfl, rfl, .inl (small _ (by decide) (by decide)), _, _, rfl, rfl, (by show (0 : Int) < 2147483629; decide), ?_⟩
    refine ⟨_, rfl, _, rfl, _, _, rfl, rfl, _, _, rfl, rfl, .inl (small _ (by decide) (by decide)), _, _, rfl, rfl, (by show (0 : Int) < 2147483587; decide), ?_⟩
    exact q _ (Int.emod_nonneg _ (by decide)) (Int.emod_lt_of_pos _ (by decide))
end
section
variable {P : Program} {w : World} {K : PySem.W.Frag} {mg : Str → Option Value} {base : Heap}
theorem scWide : FnScope ["_law_cell"] ["_law_cell"] (defScope sWide) := ⟨rfl, rfl, rfl, by decide +kernel, rfl, by decide +kernel, by decide +kernel⟩
theorem ok_wide {f : Addr} {fd : FuncData} (F : Fun K "_law_wide" "_law_wide" sWide f fd) (N : Free mg) : FnOk P w K mg base CX0 1 f fd ["_law_cell"] spWide := by
  refine F.ok (k := 0) scWide (fun vs H Q E h => ?_) (fun cdv A outer s H vs Q E hr h => ?_)
  · obtain ⟨c, rfl, _⟩ := h
    rfl
  · obtain ⟨c, rfl, q⟩ := h
    have hu := hu_of hr
    refine ⟨_, (pss_one (ps_ret (pe_cmpR op_ge (pe_callB call_abs (by rfl) N.abs PyProof.Rows.Boot.«abs» (pa_cons (pv 0) pa_nil)) (pe_op op_pow pe_int pe_int) (nomark _)))), ?_⟩
    exact ⟨_, rfl, c, rfl, 10, 18, rfl, rfl, ⟨by decide, by decide, by decide⟩, _, _, rfl, rfl, q _⟩
end
section
variable {P : Program} {w : World} {K : PySem.W.Frag} {mg : Str → Option Value} {base : Heap}
theorem scRest : FnScope ["_law_cell", "_law_by"] ["_law_cell", "_law_by"] (defScope sRest) := ⟨rfl, rfl, rfl, by decide +kernel, rfl, by decide +kernel, by decide +kernel⟩
theorem ok_rest {f f1 f2 : Addr} {fd : FuncData} (F : Fun K "_law_rest" "_law_rest" sRest f fd) (N : Free mg) {fd1 : FuncData} (CD : Cal P w K mg base "_law_wide" 1 ["_law_cell"] spWide f1 fd1) {fd2 : FuncData} (CM : Cal P w K mg base "_law_mix" 1 ["_law_cell", "_law_k"] spMix f2 fd2) : FnOk P w K mg base CX0 2 f fd ["_law_cell", "_law_by"] spRest := by
  refine F.ok (k := 1) scRest (fun vs H Q E h => ?_) (fun cdv A outer s H vs Q E hr h => ?_)
  · obtain ⟨c, k, rfl, _⟩ := h
    rfl
  · obtain ⟨c, k, rfl, k0, k1, q⟩ := h
    have hu := hu_of hr
    refine ⟨_, (pss_cons (ps_if (pt_val (pe_call CD.ok (hr.mono (by decide)) rfl CD.nm CD.kp CD.bd .nil pass0 (pa_cons (pv 0) pa_nil))) (pss_one (ps_ret (pe_op op_fdiv (pe_callB call_abs (by rfl) N.abs PyProof.Rows.Boot.«abs» (pa_cons (pv 0) pa_nil)) (pv 1)))) pss_nil)
      (pss_one (ps_ret (pe_call CM.ok (hr.mono (by decide)) rfl CM.nm CM.kp CM.bd .nil pass0 (pa_cons (pv 0) (pa_cons pe_int pa_nil)))))), ?_⟩
    refine rd_seq (rd_if ⟨_, rfl, c, rfl, fun d => ?_⟩)
    cases d with
    | true => exact ⟨true, rfl, iteT ⟨_, rfl, c, rfl, _, rfl, _, _, rfl, rfl, ⟨k0, by omega⟩, q _⟩⟩
    | false => exact ⟨false, rfl, iteF (rd_next ⟨_, rfl, c, 55, rfl, fun n _ _ => q n⟩)⟩
end
def InB (ns bases : List Int) : Prop := ∀ (i : Nat) (x m : Int), ns[i]? = some x → bases[i]? = some m → 0 ≤ x ∧ x < m
def spNumbers : Sp := fun vs H Q _ => ∃ (c : Int) (d : Bool) (lb : Addr) (bases : List Int), vs = [.int c, .bl d, .ref lb] ∧ H lb = some (.lst (bases.map V.int)) ∧ (∀ m ∈ bases, 0 < m ∧ m ≤ 1000) ∧ bases.length ≤ 100 ∧
  ∀ (p : Addr) (H' : Hp) (ns : List Int), H p = none → Grow H H' → H' p = some (.lst (ns.map V.int)) → ns.length = bases.length → InB ns bases → Q (.ref p) H'
inductive NuI (H : Hp) (c : Int) (d : Bool) (lb p : Addr) (bases : List Int) (i : Nat) (σ : St) (H2 : Hp) : Prop
  | mk (ns : List Int) (r : Int) (v5 v6 : Option V) (h1 : σ = [some (.int c), some (.bl d), some (.ref lb), some (.ref p), some (.int r), v5, v6]) (h2 : Grow H H2) (h3 : H2 p = some (.lst (ns.map V.int))) (h4 : ns.length = i) (h5 : InB ns bases) : NuI H c d lb p bases i σ H2
theorem InB.snoc {ns bases : List Int} {x m : Int} (h : InB ns bases) (hm : bases[ns.length]? = some m) (h0 : 0 ≤ x) (h1 : x < m) : InB (ns ++ [x]) bases := fun i y m' e1 e2 => by
  by_cases hi : i < ns.length
  · rw [List.getElem?_append_left hi] at e1
    exact h i y m' e1 e2
  · have : i = ns.length := by
      have := (List.getElem?_eq_some_iff.mp e1).1
      rw [List.length_append, List.length_singleton] at this
      omega
    subst this
    rw [List.getElem?_append_right (Nat.le_refl _), Nat.sub_self] at e1
    cases (show some x = some y from e1)
    rw [hm] at e2
    cases e2
    exact ⟨h0, h1⟩
section
variable {P : Program} {w : World} {K : PySem.W.Frag} {mg : Str → Option Value} {base : Heap}
theorem scNumbers : FnScope ["_law_cell", "_law_digits", "_law_bases", "_law_numbers_here", "_law_rest_here", "_law_k", "_law_base"] ["_law_cell", "_law_digits", "_law_bases"] (defScope sNumbers) := ⟨rfl, rfl, rfl, by decide +kernel, rfl, by decide +kernel, by decide +kernel⟩
theorem ok_numbers {f f1 : Addr} {fd : FuncData} (F : Fun K "_law_numbers" "_law_numbers" sNumbers f fd) (N : Free mg) {fd1 : FuncData} (CM : Cal P w K mg base "_law_mix" 1 ["_law_cell", "_law_k"] spMix f1 fd1) : FnOk P w K mg base CX0 2 f fd ["_law_cell", "_law_digits", "_law_bases"] spNumbers := by
  refine F.ok (k := 1) scNumbers (fun vs H Q E h => ?_) (fun cdv A outer s H vs Q E hr h => ?_)
  · obtain ⟨c, d, lb, bases, rfl, _⟩ := h
    rfl
  · obtain ⟨c, d, lb, bases, rfl, hb, hm, hl, q⟩ := h
    have hu := hu_of hr
    refine ⟨_, (pss_cons (ps_set (i := 3) scNumbers.nd rfl (Or.inl rfl) (pe_lst pa_nil))
      (pss_cons (ps_set (i := 4) scNumbers.nd rfl (Or.inl rfl) (pe_callB call_abs (by rfl) N.abs PyProof.Rows.Boot.«abs» (pa_cons (pv 0) pa_nil)))
      (pss_cons (ps_for PassesOwn.never rfl (pi_enum rfl N.enumerate (pa_cons (pv 2) pa_nil)) (pg_tup rfl (pgs_cons (pg_name (i := 5) scNumbers.nd rfl (Or.inl rfl)) (pgs_cons (pg_name (i := 6) scNumbers.nd rfl (Or.inl rfl)) pgs_nil)))
      (pss_one (ps_if (PW.pt (pw_and (pt_val (pv 1)) (pw_and1 (pt_cmpR op_gt (pv 4) pe_int (nomark _))))) (pss_cons (ps_expr (pe_bm PySem.F.plainAttrs_list PySem.F.slot_list_append PySem.F.type_list_append mt_append (pv 3) (pa_cons (pe_op op_mod (pv 4) (pv 6)) pa_nil)))
      (pss_one (ps_set (i := 4) scNumbers.nd rfl (Or.inl rfl) (pe_op op_fdiv (pv 4) (pv 6))))) (pss_one (ps_expr (pe_bm PySem.F.plainAttrs_list PySem.F.slot_list_append PySem.F.type_list_append mt_append (pv 3) (pa_cons (pe_op op_mod (pe_call CM.ok (hr.mono (by decide)) rfl CM.nm CM.kp CM.bd .nil pass0 (pa_cons (pv 0) (pa_cons (pe_op op_add pe_int (pv 5)) pa_nil))) (pv 6)) pa_nil)))))))
      (pss_one (ps_ret (pv 3)))))), ?_⟩
    refine rd_seq (rd_asg ⟨by show 0 ≤ sizeLine; decide, fun p np => ?_⟩)
    dsimp only [gName]
    refine rd_seq (rd_asg ⟨_, rfl, c, rfl, ?_⟩)
    dsimp only [gName]
    refine rd_seq ⟨_, rfl, lb, rfl, ⟨_, SqL.of (Grow.new np _ _ hb)⟩, for_enum (K := K) (a := lb) (xs := bases.map V.int) (NuI H c d lb p bases) ⟨[], _, none, none, rfl, Grow.new np, upd_same, rfl, fun i x m e => by simp at e⟩ (fun i σ H2 _ hh => ?_) (fun i x σ H2 t hi hh nt => ?_) fun σ H2 hh => ?_⟩
    · obtain ⟨ns, r, v5, v6, rfl, g, ep, el, hB⟩ := hh
      exact SqL.of (g _ _ hb)
    · obtain ⟨ns, r, v5, v6, rfl, g, ep, el, hB⟩ := hh
      rw [List.getElem?_map] at hi
      cases em : bases[i]? with
      | none => rw [em] at hi; cases hi
      | some m =>
        rw [em] at hi
        cases hi
        have hil := (List.getElem?_eq_some_iff.mp em).1
        obtain ⟨m0, m1⟩ := hm m (List.mem_of_getElem? em)
        refine ⟨t, _, rfl, SqT.of upd_same, rfl, _, _, rfl, _, _, rfl, rfl, ?_⟩
        dsimp only [gName, List.set_cons_zero, List.set_cons_succ]
        have kt := keepN (v := .tup [V.int (i : Int), V.int m]) nt
        have gt : Grow H (upd H2 t (.tup [V.int (i : Int), V.int m])) := g.trans (Grow.new nt)
        have ep2 := kt _ _ ep
        have sz : (ns.map V.int).length < sizeLine := by rw [List.length_map]; exact small1000 (by omega)
        have fin : ∀ (x r' : Int), 0 ≤ x → x < m → NuI H c d lb p bases (i + 1) [some (.int c), some (.bl d), some (.ref lb), some (.ref p), some (.int r'), some (.int (i : Int)), some (.int m)] (upd (upd H2 t (.tup [V.int (i : Int), V.int m])) p (.lst (ns.map V.int ++ [.int x]))) := fun x r' x0 x1 =>
          ⟨ns ++ [x], r', _, _, rfl, fun b o e => by rw [upd_ne (ne_of_none e np)]; exact gt _ _ e, by rw [upd_same, List.map_append]; rfl, by rw [List.length_append, el]; rfl, hB.snoc (by rw [el]; exact em) x0 x1⟩
        have other : ∀ (H9 : Hp), H9 = upd H2 t (.tup [V.int (i : Int), V.int m]) → (tDrop (tBM K "list" rAppend (tVar 3) (tCons (tOp (rI (fun _ j => 0 < j) fun i j => V.int (i % j)) (tCall spMix [] E0 (tCons (tVar 0) (tCons (tOp (rI0 fun i j => V.int (i + j)) (tC (V.int 3)) (tVar 5)) tNil))) (tVar 6)) tNil))) { nx := NuI H c d lb p bases (i + 1), rt := Q, bk := tRet (tVar 3) { nx := fun x H' => Q V.non H', rt := Q }, ct := NuI H c d lb p bases (i + 1) } [some (.int c), some (.bl d), some (.ref lb), some (.ref p), some (.int r), some (.int (i : Int)), some (.int m)] H9 := fun H9 e9 => by
          subst e9
          exact rd_expr ⟨_, rfl, .inl ⟨rfl, _, SqL.of ep2⟩, _, rfl, _, rfl, _, _, rfl, rfl, c, _, rfl, fun n n0 n1 => ⟨_, rfl, _, _, rfl, rfl, m0, p, _, _, rfl, rfl, ep2, sz, fin _ _ (Int.emod_nonneg _ (by omega)) (Int.emod_lt_of_pos _ m0)⟩⟩
        refine rd_if ⟨_, rfl, ?_⟩
        cases d with
        | false => exact ⟨false, rfl, iteF (iteF (other _ rfl))⟩
        | true =>
          refine ⟨true, rfl, iteT ⟨_, rfl, _, _, rfl, rfl, _, rfl, ite2 (fun hr0 => ?_) fun _ => other _ rfl⟩⟩
          refine rd_seq (rd_expr ⟨_, rfl, .inl ⟨rfl, _, SqL.of ep2⟩, _, rfl, _, rfl, _, _, rfl, rfl, m0, p, _, _, rfl, rfl, ep2, sz, ?_⟩)
          dsimp only
          refine rd_asg ⟨_, rfl, _, rfl, _, _, rfl, rfl, ⟨m0, by omega⟩, ?_⟩
          dsimp only [gName, List.set_cons_zero, List.set_cons_succ]
          exact fin _ _ (Int.emod_nonneg _ (by omega)) (Int.emod_lt_of_pos _ m0)
    · obtain ⟨ns, r, v5, v6, rfl, g, ep, el, hB⟩ := hh
      rw [List.length_map] at el
      exact ⟨_, rfl, q p H2 ns np g ep el hB⟩
end
end Mine
namespace L2
open PySem PySem.Spec PyProof.Rows
end L2
namespace L2
open PySem PySem.Spec PyProof.Rows
section
variable {X : Cx} {pins : List (Addr × Obj)} {σ : St} {H : Hp} {s : Shared}
end
end L2
namespace L2
open PySem PySem.Spec PyProof.Rows
section
variable {X : Cx}
end
end L2
namespace L2
open PySem PySem.Spec PyProof.Rows
section
variable {X : Cx}
end
end L2
namespace L2
open PySem PySem.Spec PyProof.Rows
def starB : Expr → Bool
  | .Starred _ _ => true
  | _ => false
theorem star_cons {e : Expr} {es : List Expr} {env : Env} (h : starB e = false) : starEach (e :: es) env = (false, eval e env) :: starEach es env := by
  cases e <;> first | (cases h; done) | (unfold starEach; rfl) | rfl
theorem pa_kons {X : Cx} {e : Expr} {es : List Expr} {te : TE} {t : TA} (ha : PE X e te) (hr : PA X es t) (hs : starB e = false := by rfl) : PA X (e :: es) (tCons te t) := pa_cons ha hr (star_cons hs)
section
variable {σ : St} {H : Hp}
end
end L2
namespace L2
open PySem PySem.Spec PyProof.Rows
section
variable {prog : Program} {w : World} {A : Around} {E : Value → Shared → Prop}
theorem draw_list {it t : Addr} {items : Array Value} (hne : t ≠ it) : ∀ (n i : Nat) (s : Shared) (Q : List Value → Shared → Prop), s.heap.IsListIter it t i → s.heap.IsList t items → i + n ≤ items.size →
    (∀ h', h'.IsListIter it t (i + n) → Heap.SameBut it s.heap h' → Q ((items.toList.drop i).take n) { s with heap := h' }) → wpAny (model prog w) A (draw (.ref it) n) Q E s
  | 0, i, s, Q, hit, _, _, hQ => by
    show wpAny _ _ (pure []) Q E s
    exact wpAny_pure (by simpa using hQ s.heap hit (Heap.SameBut.refl ..))
  | n + 1, i, s, Q, hit, ht, hle, hQ => by
    have hlt : i < items.size := by omega
    show wpAny _ _ (pyNext (.ref it) >>= _) Q E s
    refine wpAny_bind (wpAny_pyNext_list_item hit ht (x := items[i]) (by simp [hlt]) fun h₁ hit₁ hs₁ => ?_)
    have ht₁ : h₁.IsList t items := by
      obtain ⟨o, ho, r⟩ := ht
      exact ⟨o, (hs₁.2 t hne).trans ho, r⟩
    refine wpAny_bind (wpAny_holding (draw_list hne n (i + 1) _ _ hit₁ ht₁ (by omega) fun h₂ hit₂ hs₂ => wpAny_pure ?_))
    have hd : items.toList.drop i = items[i] :: items.toList.drop (i + 1) := by simp [List.drop_eq_getElem_cons, hlt]
    have := hQ h₂ (by rw [show i + (n + 1) = i + 1 + n by omega]; exact hit₂) (hs₁.trans hs₂)
    rw [hd, List.take_succ_cons] at this
    exact this
theorem unpackItems_list {s : Shared} {t : Addr} {items : Array Value} {Q : List Value → Shared → Prop} (hh : A.handled = none) (ht : s.heap.IsList t items)
    (hQ : ∀ h', Heap.ExtBut s.heap.objs.size s.heap h' → Q items.toList { s with heap := h' }) : wpAny (model prog w) A (unpackItems (.ref t) items.size none) Q E s := by
  have hlt : t ≠ s.heap.objs.size := by obtain ⟨o, ho, _⟩ := ht; exact Nat.ne_of_lt (Heap.lt_size ho)
  have hT : s.TypeIs (.ref t) "list" := by
    obtain ⟨o, ho, hc, _⟩ := ht
    exact ⟨o, ho, hc⟩
  unfold unpackItems
  refine wpAny_bind ?_
  · unfold notIterableAtAll
    refine wpAny_bind (wpAny_specialOf hT F.slot_list_iter.lookup ?_)
    refine wpAny_pure ?_
    simp only [Bool.false_eq_true, if_false]
    have htp : (s.heap.push { cls := .type "list_iterator", data := .fields #[.ref t, .int 0 0] }).IsList t items := by
      obtain ⟨o, ho, r⟩ := ht
      exact ⟨o, Heap.get?_push_of_some _ ho, r⟩
    refine wpAny_bind (wpAny_holding (wpAny_pyIter_list ht ?_))
    refine wpAny_bind (wpAny_holding (draw_list hlt items.size 0 _ _ ⟨_, Heap.get?_push_size _ rfl, rfl, rfl⟩ htp (by omega) fun h₁ hit₁ hs₁ => ?_))
    have hall : List.take items.size (List.drop 0 items.toList) = items.toList := by
      rw [List.drop_zero]; exact List.take_of_length_le (by simp)
    rw [hall]
    rw [if_neg (by simp)]
    have ht₁ : h₁.IsList t items := by
      obtain ⟨o, ho, r⟩ := htp
      exact ⟨o, (hs₁.2 t hlt).trans ho, r⟩
    refine wpAny_bind (wpAny_holding (wpAny_pyNext_list_end hh hit₁ ht₁ (by simp) fun h₂ he₂ => ?_))
    simp only [Option.isSome_none, Bool.false_eq_true, if_false]
    refine wpAny_pure (hQ h₂ fun b o hb e => he₂ b o hb (hs₁.extBut b o hb (Heap.get?_push_of_some _ e)))
theorem assign_Tuple_list {s : Shared} {env : Env} {elts : List Expr} {x1} {pos : Pos} {t : Addr} {items : Array Value} {Q : Unit → Shared → Prop} (hh : A.handled = none) (ht : s.heap.IsList t items)
    (hn : (assignEach elts env).length = items.size) (hstar : (assignEach elts env).findIdx? (·.1) = none)
    (h : ∀ h', Heap.ExtBut s.heap.objs.size s.heap h' → wpAny (model prog w) A (assignInOrder ((assignEach elts env).map (·.2)) items.toList) Q E { s with heap := h' }) :
    wpAny (model prog w) A (assign (.Tuple elts x1 pos) env (.ref t)) Q E s := by
  rw [assign_Tuple]
  refine wpAny_bind (wpAny_standAt ?_)
  unfold unpack
  rw [hn, hstar]
  exact wpAny_bind (wpAny_holding (unpackItems_list hh ht h))
end
inductive gLst (K : PySem.W.Frag) (n : Nat) (t : TGs) (v : V) (σ : St) (H : Hp) (Q : St → Hp → Prop) : Prop
  | mk (a xs) (h1 : v = .ref a) (h2 : SqL K H a xs) (h3 : xs.length = n) (h4 : t xs σ H Q) : gLst K n t v σ H Q
theorem pg_lst {X : Cx} {pos : Pos} {es : List Expr} {k : Nat} {t : TGs} {n : Nat} (hc : X.calm = true) (h : PGs X es t)
    (hn : (assignEach es X.env).length = n := by rfl) (hst : (assignEach es X.env).findIdx? (·.1) = none := by rfl) : PG X (.Tuple es k pos) (gLst X.K n t) := by
  intro pins s σ H v u Q I r hw
  obtain ⟨a, xs, e1, hq, hl, hw⟩ := hw
  subst e1
  cases r
  obtain ⟨its, rv, p, hz⟩ := I.list hq
  refine assign_Tuple_list (I.ok.hd hc) p.isList (by simp [hn, ← hl, rv.length]) hst fun h' hx => ?_
  have I1 : Inv X pins σ H { s with heap := h' } := I.kept (t' := s.toks) fun b o e => hx b o (Nat.ne_of_lt (Heap.lt_size e)) e
  exact h pins _ σ H xs _ Q I1 (by simpa using rv) hw
theorem cut3 {xs : List V} {a : Nat} {x0 x1 x2 : V} (h0 : xs[a]? = some x0) (h1 : xs[a + 1]? = some x1) (h2 : xs[a + 2]? = some x2) : cutV xs (some (a : Int)) (some ((a + 3 : Nat) : Int)) = [x0, x1, x2] := by
  have l2 := (List.getElem?_eq_some_iff.mp h2)
  have l1 := (List.getElem?_eq_some_iff.mp h1)
  have l0 := (List.getElem?_eq_some_iff.mp h0)
  unfold cutV
  rw [HT.sIx_nat, HT.sIx_nat, Nat.min_eq_left (by have := l2.1; omega), Nat.min_eq_left (by have := l2.1; omega)]
  rw [show a + 3 - a = 3 by omega, List.drop_eq_getElem_cons l0.1, List.drop_eq_getElem_cons l1.1, List.drop_eq_getElem_cons l2.1, l0.2, l1.2, l2.2]
  rfl
end L2
namespace Mine
open PySem L2
abbrev keys4 : List Str := [Str.ofString "a", Str.ofString "ab", Str.ofString "zzzzzzzz", Str.ofString "q"]
abbrev owners12 : List Str := [Str.ofString "a", Str.ofString "ab", Str.ofString "b", Str.ofString "value a 3", Str.ofString "sum a,b 0 9", Str.ofString " ", Str.ofString "Z", Str.ofString "9", xs400, xs399, Str.ofString "10", Str.ofString "-"]
def spKeysL : Sp := fun vs H Q _ => vs = [] ∧ ∀ p, H p = none → Q (.ref p) (upd H p (.lst (keys4.map V.str)))
def spOwnersL : Sp := fun vs H Q _ => vs = [] ∧ ∀ p, H p = none → Q (.ref p) (upd H p (.lst (owners12.map V.str)))
theorem keys4_ok : ∀ k ∈ keys4, hasB k letZ 8 = true ∧ k.length < sizeLine := by decide +kernel
theorem owners_ok : ∀ o ∈ owners12, 1 ≤ o.length ∧ o.length ≤ 400 := by decide +kernel
section
variable {P : Program} {w : World} {K : PySem.W.Frag} {mg : Str → Option Value} {base : Heap}
theorem scKeys : FnScope [] [] (defScope sKeys) := ⟨rfl, rfl, rfl, by decide +kernel, rfl, by decide +kernel, by decide +kernel⟩
theorem ok_keys {f : Addr} {fd : FuncData} (F : Fun K "_law_keys" "_law_keys" sKeys f fd)  : FnOk P w K mg base CX0 1 f fd [] spKeysL := by
  refine F.ok (k := 0) scKeys (fun vs H Q E h => ?_) (fun cdv A outer s H vs Q E hr h => ?_)
  · obtain ⟨rfl, _⟩ := h
    rfl
  · obtain ⟨rfl, q⟩ := h
    have hu := hu_of hr
    refine ⟨_, (@pss_one _ _ _ (@ps_ret _ _ _ _ (@pe_lst _ _ _ _ (@pa_kons _ _ _ _ _ pe_str (@pa_kons _ _ _ _ _ pe_str (@pa_kons _ _ _ _ _ pe_str (@pa_kons _ _ _ _ _ pe_str pa_nil rfl) rfl) rfl) rfl)))), ?_⟩
    exact ⟨by show 4 ≤ sizeLine; decide, fun p np => q p np⟩
end
section
variable {P : Program} {w : World} {K : PySem.W.Frag} {mg : Str → Option Value} {base : Heap}
theorem scOwnersL : FnScope [] [] (defScope sOwnersL) := ⟨rfl, rfl, rfl, by decide +kernel, rfl, by decide +kernel, by decide +kernel⟩
theorem ok_ownersL {f : Addr} {fd : FuncData} (F : Fun K "_law_owners" "_law_owners" sOwnersL f fd)  : FnOk P w K mg base CX0 1 f fd [] spOwnersL := by
  refine F.ok (k := 0) scOwnersL (fun vs H Q E h => ?_) (fun cdv A outer s H vs Q E hr h => ?_)
  · obtain ⟨rfl, _⟩ := h
    rfl
  · obtain ⟨rfl, q⟩ := h
    have hu := hu_of hr
    refine ⟨_, (@pss_one _ _ _ (@ps_ret _ _ _ _ (@pe_lst _ _ _ _ (@pa_kons _ _ _ _ _ pe_str (@pa_kons _ _ _ _ _ pe_str (@pa_kons _ _ _ _ _ pe_str (@pa_kons _ _ _ _ _ pe_str (@pa_kons _ _ _ _ _ pe_str (@pa_kons _ _ _ _ _ pe_str (@pa_kons _ _ _ _ _ pe_str (@pa_kons _ _ _ _ _ pe_str (@pa_kons _ _ _ _ _ (@pe_op _ _ _ _ _ _ _ _ op_mul_str pe_str pe_int) (@pa_kons _ _ _ _ _ (@pe_op _ _ _ _ _ _ _ _ op_mul_str pe_str pe_int) (@pa_kons _ _ _ _ _ pe_str (@pa_kons _ _ _ _ _ pe_str pa_nil rfl) rfl) rfl) rfl) rfl) rfl) rfl) rfl) rfl) rfl) rfl) rfl)))), ?_⟩
    refine ⟨_, _, rfl, rfl, mulok (by decide) (by decide), _, _, rfl, rfl, mulok (by decide) (by decide), by show 12 ≤ sizeLine; decide, fun p np => q p np⟩
end
def spBoxesL : Sp := fun vs H Q _ => ∃ (c : Int) (d : Bool), vs = [.int c, .bl d] ∧ ∀ (p : Addr) (H' : Hp) (bs : List RwB), H p = none → Grow H H' → BxL H' p bs → bs.length ≤ 6 → (∀ x ∈ bs, BxOk x) → (∀ x ∈ bs, x.1 ∈ keys4) → Q (.ref p) H'
inductive BxI (H : Hp) (c : Int) (d : Bool) (ln p : Addr) (ns : List Int) (i : Nat) (σ : St) (H2 : Hp) : Prop
  | mk (bs : List RwB) (v4 v5 v6 v7 v8 : Option V) (h1 : σ = [some (.int c), some (.bl d), some (.ref ln), some (.ref p), v4, v5, v6, v7, v8]) (h2 : Grow H H2) (h3 : H2 ln = some (.lst (ns.map V.int))) (h4 : BxL H2 p bs) (h5 : bs.length = i) (h6 : ∀ x ∈ bs, BxOk x ∧ x.1 ∈ keys4) : BxI H c d ln p ns i σ H2
theorem third400 {d : Int} (h0 : 0 ≤ d) (h1 : d < 3) : ∃ m : Int, 0 < m ∧ m ≤ 400 ∧ atI [V.int 400, V.int 40, V.int 12] d = some (V.int m) := by
  rcases (show d = 0 ∨ d = 1 ∨ d = 2 by omega) with rfl | rfl | rfl
  · exact ⟨400, by decide, by decide, rfl⟩
  · exact ⟨40, by decide, by decide, rfl⟩
  · exact ⟨12, by decide, by decide, rfl⟩
theorem third30 {d : Int} (h0 : 0 ≤ d) (h1 : d < 3) : ∃ m : Int, 0 < m ∧ m ≤ 400 ∧ atI [V.int 400, V.int 30, V.int 9] d = some (V.int m) := by
  rcases (show d = 0 ∨ d = 1 ∨ d = 2 by omega) with rfl | rfl | rfl
  · exact ⟨400, by decide, by decide, rfl⟩
  · exact ⟨30, by decide, by decide, rfl⟩
  · exact ⟨9, by decide, by decide, rfl⟩
theorem at_nth {ys : List Str} {d : Int} (h0 : 0 ≤ d) (h1 : d < ys.length) : ∃ y ∈ ys, atI (ys.map V.str) d = some (V.str y) := by
  obtain ⟨j, rfl⟩ : ∃ j : Nat, d = (j : Int) := ⟨d.toNat, by omega⟩
  have hj : j < ys.length := by omega
  refine ⟨ys[j], List.getElem_mem hj, atI_nat ?_⟩
  rw [List.getElem?_map, List.getElem?_eq_getElem hj]
  rfl
theorem fourth {d : Int} (h0 : 0 ≤ d) (h1 : d < 4) : ∃ y ∈ keys4, atI (keys4.map V.str) d = some (V.str y) := at_nth h0 h1
abbrev bases20 : List Int := [7, 3, 4, 400, 400, 4, 400, 400, 4, 400, 400, 4, 400, 400, 4, 400, 400, 4, 400, 400]
section
variable {P : Program} {w : World} {K : PySem.W.Frag} {mg : Str → Option Value} {base : Heap}
theorem scBoxesL : FnScope ["_law_cell", "_law_digits", "_law_numbers_here", "_law_boxes_here", "_law_k", "_law_key", "_law_first", "_law_more", "_law_last"] ["_law_cell", "_law_digits"] (defScope sBoxesL) := ⟨rfl, rfl, rfl, by decide +kernel, rfl, by decide +kernel, by decide +kernel⟩
theorem ok_boxesL {f f1 f2 : Addr} {fd : FuncData} (F : Fun K "_law_boxes" "_law_boxes" sBoxesL f fd) (N : Free mg) {fd1 : FuncData} (CN : Cal P w K mg base "_law_numbers" 2 ["_law_cell", "_law_digits", "_law_bases"] spNumbers f1 fd1) {fd2 : FuncData} (CK : Cal P w K mg base "_law_keys" 1 [] spKeysL f2 fd2) : FnOk P w K mg base CX0 3 f fd ["_law_cell", "_law_digits"] spBoxesL := by
  refine F.ok (k := 2) scBoxesL (fun vs H Q E h => ?_) (fun cdv A outer s H vs Q E hr h => ?_)
  · obtain ⟨c, d, rfl, _⟩ := h
    rfl
  · obtain ⟨c, d, rfl, q⟩ := h
    have hu := hu_of hr
    refine ⟨_, (pss_cons (ps_set (i := 2) scBoxesL.nd rfl (Or.inl rfl) (pe_call CN.ok (hr.mono (by decide)) rfl CN.nm CN.kp CN.bd .nil pass0 (pa_kons (pv 0) (pa_kons (pv 1) (pa_kons (pe_op op_cat (pe_lst (pa_kons pe_int (pa_kons pe_int pa_nil))) (pe_op op_rep (pe_lst (pa_kons pe_int (pa_kons pe_int (pa_kons pe_int pa_nil)))) pe_int)) pa_nil)))))
      (pss_cons (ps_set (i := 3) scBoxesL.nd rfl (Or.inl rfl) (pe_lst pa_nil))
      (pss_cons (ps_for PassesOwn.never rfl (pi_range1 rfl N.range (pa_kons (pe_ix ix_list (pv 2) pe_int (fun _ _ => rfl)) pa_nil)) (pg_name (i := 4) scBoxesL.nd rfl (Or.inl rfl))
      (pss_cons (ps_asg (pe_slice sl_list (pv 2) (po_some (pe_op op_add pe_int (pe_op op_mul pe_int (pv 4)))) (po_some (pe_op op_add pe_int (pe_op op_mul pe_int (pv 4))))) (pg_lst rfl (pgs_cons (pg_name (i := 5) scBoxesL.nd rfl (Or.inl rfl)) (pgs_cons (pg_name (i := 6) scBoxesL.nd rfl (Or.inl rfl)) (pgs_cons (pg_name (i := 7) scBoxesL.nd rfl (Or.inl rfl)) pgs_nil)))))
      (pss_cons (ps_set (i := 6) scBoxesL.nd rfl (Or.inl rfl) (pe_op op_mod (pv 6) (pe_ix ix_list (pe_lst (pa_kons pe_int (pa_kons pe_int (pa_kons pe_int pa_nil)))) (pe_ix ix_list (pv 2) pe_int (fun _ _ => rfl)) (fun _ _ => rfl))))
      (pss_cons (ps_set (i := 8) scBoxesL.nd rfl (Or.inl rfl) (pe_callB (call_min2 rfl) (by rfl) N.min PyProof.Rows.Boot.«min» (pa_kons pe_int (pa_kons (pe_op op_add (pv 6) (pe_op op_mod (pv 7) (pe_ix ix_list (pe_lst (pa_kons pe_int (pa_kons pe_int (pa_kons pe_int pa_nil)))) (pe_ix ix_list (pv 2) pe_int (fun _ _ => rfl)) (fun _ _ => rfl)))) pa_nil))))
      (pss_one (ps_expr (pe_bm PySem.F.plainAttrs_list PySem.F.slot_list_append PySem.F.type_list_append mt_append (pv 3) (pa_kons (pe_tup (pa_kons (pe_ix ix_list (pe_call0 CK.ok (hr.mono (by decide)) rfl CK.nm CK.kp CK.bd .nil pass0) (pv 5) (fun _ _ => rfl)) (pa_kons (pv 6) (pa_kons (pv 8) pa_nil)))) pa_nil))))))))
      (pss_one (ps_ret (pv 3)))))), ?_⟩
    refine rd_seq (rd_asg ⟨_, rfl, _, rfl, by show 2 ≤ sizeLine; decide, fun l1 n1 => ⟨by show 3 ≤ sizeLine; decide, fun l2 n2 => ?_⟩⟩)
    refine ⟨l2, 6, _, rfl, rfl, upd_same, by decide, by decide, by show 3 * 6 ≤ sizeLine; decide, fun l3 n3 => ?_⟩
    have k2 := keepN (v := .lst [V.int 4, V.int 400, V.int 400]) n2
    have k3 := keepN (v := .lst (List.replicate (Int.toNat 6) [V.int 4, V.int 400, V.int 400]).flatten) n3
    refine ⟨l1, l3, _, _, rfl, rfl, k3 _ _ (k2 _ _ upd_same), upd_same, by show 20 ≤ sizeLine; decide, fun l4 n4 => ?_⟩
    have g4 : Grow H (upd (upd (upd (upd H l1 (.lst [V.int 7, V.int 3])) l2 (.lst [V.int 4, V.int 400, V.int 400])) l3 (.lst (List.replicate (Int.toNat 6) [V.int 4, V.int 400, V.int 400]).flatten)) l4 (.lst ([V.int 7, V.int 3] ++ (List.replicate (Int.toNat 6) [V.int 4, V.int 400, V.int 400]).flatten))) := (Grow.new n1).trans ((Grow.new n2).trans ((Grow.new n3).trans (Grow.new n4)))
    refine ⟨c, d, l4, bases20, rfl, by rw [upd_same]; rfl, by decide, by decide, fun ln H5 ns nln g5 eln hlen hB => ?_⟩
    dsimp only [gName]
    have g05 := g4.trans g5
    refine rd_seq (rd_asg ⟨by show 0 ≤ sizeLine; decide, fun p np => ?_⟩)
    dsimp only [gName]
    have np0 := g05.free np
    have hlen : ns.length = 20 := hlen
    have nth : ∀ (i : Nat) (m : Int), bases20[i]? = some m → ∃ x, ns[i]? = some x ∧ 0 ≤ x ∧ x < m := fun i m e => by
      have hi : i < ns.length := by rw [hlen]; exact (List.getElem?_eq_some_iff.mp e).1
      exact ⟨ns[i], List.getElem?_eq_getElem hi, hB i _ m (List.getElem?_eq_getElem hi) e⟩
    have nthV : ∀ (i : Nat) (x : Int), ns[i]? = some x → (ns.map V.int)[i]? = some (.int x) := fun i x e => by rw [List.getElem?_map, e]; rfl
    obtain ⟨a0, ea0, a00, a01⟩ := nth 0 7 rfl
    obtain ⟨a1, ea1, a10, a11⟩ := nth 1 3 rfl
    have hlp : ln ≠ p := ne_of_none eln np
    refine rd_seq ⟨_, rfl, ln, _, 0, _, rfl, rfl, SqL.of (Grow.new np _ _ eln), atI_nat (nthV 0 a0 ea0), a0, rfl, by omega, by omega, ?_⟩
    refine for_range (BxI H c d ln p ns) ⟨[], none, none, none, none, none, rfl, g05.trans (Grow.new np), Grow.new np _ _ eln, ⟨[], upd_same, .nil⟩, rfl, (fun _ z => nomatch z)⟩ (fun i σ H6 hi hh => ?_) fun σ H6 hh => ?_
    · obtain ⟨bs, v4, v5, v6, v7, v8, rfl, g6, el6, ⟨ps, ep6, rb6⟩, hbl, hbok⟩ := hh
      have hi6 : i < 6 := by omega
      dsimp only [gName, List.set_cons_zero, List.set_cons_succ]
      have hb : ∀ (j : Nat), j < 3 → ∃ m, bases20[2 + 3 * i + j]? = some m ∧ m = (if j = 0 then 4 else 400) := fun j hj => by
        have : ∀ (i : Fin 6) (j : Fin 3), bases20[2 + 3 * i.val + j.val]? = some (if j.val = 0 then (4 : Int) else 400) := by decide
        exact ⟨_, this ⟨i, hi6⟩ ⟨j, hj⟩, rfl⟩
      obtain ⟨m0, em0, rfl⟩ := hb 0 (by decide)
      obtain ⟨m1, em1, rfl⟩ := hb 1 (by decide)
      obtain ⟨m2, em2, rfl⟩ := hb 2 (by decide)
      obtain ⟨x0, ex0, x00, x01⟩ := nth _ _ em0
      obtain ⟨x1, ex1, x10, x11⟩ := nth _ _ em1
      obtain ⟨x2, ex2, x20, x21⟩ := nth _ _ em2
      have x01 : x0 < 4 := x01
      have x11 : x1 < 400 := x11
      have x21 : x2 < 400 := x21
      have ec := cut3 (nthV _ _ ex0) (nthV _ _ ex1) (nthV _ _ ex2)
      have e1 : (2 : Int) + 3 * (0 + (i : Int)) = ((2 + 3 * i + 0 : Nat) : Int) := by omega
      have e2 : (5 : Int) + 3 * (0 + (i : Int)) = ((2 + 3 * i + 0 + 3 : Nat) : Int) := by omega
      refine rd_seq (rd_asg ⟨_, rfl, _, rfl, _, _, rfl, rfl, .inl ⟨by decide, by decide⟩, _, _, rfl, rfl, _, rfl, _, rfl, _, _, rfl, rfl, .inl ⟨by decide, by decide⟩, _, _, rfl, rfl, _, rfl, ln, _, rfl, SqL.of el6, fun q1 nq1 => ?_⟩)
      rw [e1, e2, ec]
      refine ⟨q1, _, rfl, SqL.of upd_same, rfl, _, _, rfl, _, _, rfl, _, _, rfl, rfl, ?_⟩
      dsimp only [gName, List.set_cons_zero, List.set_cons_succ]
      have g7 := g6.trans (Grow.new (o := .lst [V.int x0, V.int x1, V.int x2]) nq1)
      have kq := keepN (v := .lst [V.int x0, V.int x1, V.int x2]) nq1
      obtain ⟨mm, mm0, mm4, emm⟩ := third400 a10 a11
      obtain ⟨mn, mn0, mn4, emn⟩ := third30 a10 a11
      refine rd_seq (rd_asg ⟨_, rfl, by show 3 ≤ sizeLine; decide, fun q2 nq2 => ?_⟩)
      have kq2 := keepN (v := .lst [V.int 400, V.int 40, V.int 12]) nq2
      refine ⟨_, rfl, ln, _, 1, _, rfl, rfl, SqL.of (kq2 _ _ (kq _ _ el6)), atI_nat (nthV 1 a1 ea1), q2, _, a1, _, rfl, rfl, SqL.of upd_same, emm, _, _, rfl, rfl, mm0, ?_⟩
      dsimp only [gName, List.set_cons_zero, List.set_cons_succ]
      have g8 := g7.trans (Grow.new (o := .lst [V.int 400, V.int 40, V.int 12]) nq2)
      have f0 := Int.emod_nonneg x1 (show mm ≠ 0 by omega)
      have f1 := Int.emod_lt_of_pos x1 mm0
      have r0 := Int.emod_nonneg x2 (show mn ≠ 0 by omega)
      refine rd_seq (rd_asg ⟨_, rfl, _, rfl, by show 3 ≤ sizeLine; decide, fun q3 nq3 => ?_⟩)
      have kq3 := keepN (v := .lst [V.int 400, V.int 30, V.int 9]) nq3
      refine ⟨_, rfl, ln, _, 1, _, rfl, rfl, SqL.of (kq3 _ _ (kq2 _ _ (kq _ _ el6))), atI_nat (nthV 1 a1 ea1), q3, _, a1, _, rfl, rfl, SqL.of upd_same, emn, _, _, rfl, rfl, mn0, _, _, rfl, rfl, 399, _, rfl, ?_⟩
      dsimp only [gName, List.set_cons_zero, List.set_cons_succ]
      have ep9 := kq3 _ _ (kq2 _ _ (kq _ _ ep6))
      have el9 := kq3 _ _ (kq2 _ _ (kq _ _ el6))
      have g9 := g8.trans (Grow.new (o := .lst [V.int 400, V.int 30, V.int 9]) nq3)
      have rb9 : RowB (upd (upd (upd H6 q1 (.lst [V.int x0, V.int x1, V.int x2])) q2 (.lst [V.int 400, V.int 40, V.int 12])) q3 (.lst [V.int 400, V.int 30, V.int 9])) ps bs := Paired.mapP rb6 fun _ _ e => kq3 _ _ (kq2 _ _ (kq _ _ e))
      generalize upd (upd (upd H6 q1 (.lst [V.int x0, V.int x1, V.int x2])) q2 (.lst [V.int 400, V.int 40, V.int 12])) q3 (.lst [V.int 400, V.int 30, V.int 9]) = H9 at ep9 el9 g9 rb9 ⊢
      generalize hl9 : (if x1 % mm + x2 % mn < 399 then x1 % mm + x2 % mn else 399) = la
      have hla : x1 % mm ≤ la ∧ la < 400 := by rw [← hl9]; split <;> omega
      obtain ⟨ky, hky, eky⟩ := fourth x00 x01
      refine rd_expr ⟨_, rfl, .inl ⟨rfl, _, SqL.of ep9⟩, rfl, fun q4 nq4 => ?_⟩
      have kq4 := keepN (v := .lst (keys4.map V.str)) nq4
      refine ⟨_, rfl, q4, _, x0, _, rfl, rfl, SqL.of upd_same, eky, _, rfl, _, rfl, by show 3 ≤ sizeLine; decide, fun t nt => ?_⟩
      have kt := keepN (v := .tup [V.str ky, V.int (x1 % mm), V.int la]) nt
      have hpl : (ps.map V.ref).length < sizeLine := by rw [List.length_map, show ps.length = bs.length from Paired.length rb6, hbl]; exact small1000 (by omega)
      refine ⟨p, _, _, rfl, rfl, kt _ _ (kq4 _ _ ep9), hpl, bs ++ [(ky, x1 % mm, la)], _, _, _, _, _, rfl, fun b o e => ?_, ?_, ⟨ps ++ [t], ?_, ?_⟩, ?_, fun x hx => ?_⟩
      · rw [upd_ne (ne_of_none e np0)]
        exact kt _ _ (kq4 _ _ (g9 _ _ e))
      · rw [upd_ne hlp]
        exact kt _ _ (kq4 _ _ el9)
      · rw [upd_same, List.map_append]; rfl
      · have nx : ∀ b x, H9 b = some (.tup x) → b ≠ p := fun b x e => ne_of e ep9 (fun z => nomatch z)
        refine paired_snoc (Paired.mapP rb9 fun _ _ e => by rw [upd_ne (nx _ _ e)]; exact kt _ _ (kq4 _ _ e)) ?_
        rw [upd_ne (Ne.symm (ne_of_none (kq4 _ _ ep9) nt)), upd_same]; rfl
      · rw [List.length_append, hbl]; rfl
      · rcases List.mem_append.mp hx with hx | hx
        · exact hbok x hx
        · rw [List.mem_singleton.mp hx]
          obtain ⟨h1, h2⟩ := keys4_ok ky hky
          exact ⟨⟨h1, h2, f0, hla.1, hla.2⟩, hky⟩
    · obtain ⟨bs, v4, v5, v6, v7, v8, rfl, g6, el6, hb6, hbl, hbok⟩ := hh
      exact ⟨_, rfl, q p H6 bs np0 g6 hb6 (by omega) (fun x hx => (hbok x hx).1) (fun x hx => (hbok x hx).2)⟩
end
end Mine
namespace L2
open PySem PySem.Spec PyProof.Rows
theorem cps_inj {a b : Str} (h : a.cps.toList = b.cps.toList) : a = b := by
  obtain ⟨x⟩ := a
  obtain ⟨y⟩ := b
  congr 1
  exact Array.toList_inj.mp h
def LeS (a b : Str) : Prop := a.cps.toList ≤ b.cps.toList
theorem leS_of {a b : Str} (h : ltCps b.cps.toList a.cps.toList = false) : LeS a b := by
  rw [ltCps_eq] at h
  exact of_decide_eq_false h
theorem LeS.trans {a b c : Str} (h : LeS a b) (h' : LeS b c) : LeS a c := List.le_trans h h'
theorem LeS.anti {a b : Str} (h : LeS a b) (h' : LeS b a) : a = b := cps_inj (List.le_antisymm h h')
theorem rising_pw : ∀ {l : List Str} {p : Str}, risingS p l = true → (p :: l).Pairwise LeS
  | [], p, _ => List.pairwise_singleton ..
  | x :: l, p, h => by
    have h : (!ltCps x.cps.toList p.cps.toList && risingS x l) = true := h
    rw [Bool.and_eq_true] at h
    have hpx : LeS p x := leS_of (by simpa using h.1)
    have ih := rising_pw h.2
    refine List.pairwise_cons.mpr ⟨fun y hy => ?_, ih⟩
    rcases List.mem_cons.mp hy with rfl | hy
    · exact hpx
    · exact hpx.trans ((List.pairwise_cons.mp ih).1 y hy)
theorem sorted_pw : ∀ {l : List Str}, sortedS l = true → l.Pairwise LeS
  | [], _ => List.Pairwise.nil
  | x :: l, h => rising_pw h
theorem sorted_eq {l l' : List Str} (h : sortedS l = true) (h' : sortedS l' = true) (p : l.Perm l') : l = l' :=
  List.Perm.eq_of_pairwise (le := LeS) (fun a b _ _ h1 h2 => h1.anti h2) (sorted_pw h) (sorted_pw h') p
theorem isLst {X : Cx} {pins : List (Addr × Obj)} {σ : St} {H : Hp} {s : Shared} {p : Addr} {xs : List V} (I : Inv X pins σ H s) (e : H p = some (.lst xs)) : ∃ its : List Value, Vals xs its ∧ s.heap.IsList p its.toArray := by
  obtain ⟨_, its, n, r, h1⟩ := (show ObjOk X.prog X.w H s.heap p (.lst xs) from I.hok p _ e)
  exact ⟨its, r, _, h1, rfl, n, rfl⟩
section
variable {X : Cx}
end
theorem for_dict {a : Addr} {ob : Obj} {kvs : List (Key × V)} {g : TG} {tb : TS} {D : Ends} {σ : St} {H : Hp} (Pv : Nat → St → Hp → Prop) (h0 : Pv 0 σ H) (hf : ∀ i σ H, i ≤ kvs.length → Pv i σ H → H a = some (.frz ob (.dK kvs)))
    (hs : ∀ i p σ H, kvs[i]? = some p → Pv i σ H → g (kV p.1) σ H fun σ2 H2 => tb { D with nx := Pv (i + 1), ct := Pv (i + 1), bk := D.nx } σ2 H2) (hd : ∀ σ H, Pv kvs.length σ H → D.nx σ H) :
    ∃ W : Nat → Nat → St → Hp → Prop, (∃ m, W 0 m σ H) ∧ ∀ i m σ H, W i m σ H →
      ((Itd a ob kvs).stop i H ∧ D.nx σ H) ∨ ((Itd a ob kvs).go i H ∧ ∃ N : St → Hp → Prop, (∀ σ' H', N σ' H' → ∃ m', m' < m ∧ W (i + 1) m' σ' H') ∧ ∀ x H', (Itd a ob kvs).yld i H x H' → g x σ H' fun σ2 H2 => tb { D with nx := N, ct := N, bk := D.nx } σ2 H2) := by
  refine ⟨fun i m σ H => m = kvs.length - i ∧ i ≤ kvs.length ∧ Pv i σ H, ⟨kvs.length, by simp, Nat.zero_le _, h0⟩, ?_⟩
  rintro i m σ H ⟨rfl, hi, p⟩
  have q := hf i σ H hi p
  by_cases hlt : i < kvs.length
  · refine .inr ⟨⟨q, hlt⟩, Pv (i + 1), fun σ' H' p' => ⟨kvs.length - (i + 1), by omega, rfl, hlt, p'⟩, fun x H' y => ?_⟩
    obtain ⟨e, kv, ek, rfl⟩ := y
    subst e
    exact hs i kv σ _ ek p
  · have e : i = kvs.length := by omega
    subst e
    exact .inl ⟨⟨q, rfl⟩, hd σ H p⟩
def KpR (H : Hp) (kv : Key × V) (x : Str × List RwB) : Prop := kv.1 = Sum.inr x.1 ∧ ∃ la, kv.2 = .ref la ∧ BxL H la x.2
theorem kp_keep {H H' : Hp} {kvs : List (Key × V)} {J : Ix} (h : Paired (KpR H) kvs J) (hl : ∀ b x, H b = some (.lst x) → (∃ kv ∈ kvs, kv.2 = .ref b) → H' b = some (.lst x)) (ht : ∀ b x, H b = some (.tup x) → H' b = some (.tup x)) : Paired (KpR H') kvs J := by
  induction h with
  | nil => exact .nil
  | @cons kv x kvs J a t ih =>
    obtain ⟨e1, la, e2, bl⟩ := a
    exact .cons ⟨e1, la, e2, bl.keep (fun x e => hl la x e ⟨kv, List.mem_cons_self, e2⟩) ht⟩ (ih fun b x e ⟨kv', hk, ek⟩ => hl b x e ⟨kv', List.mem_cons_of_mem _ hk, ek⟩)
theorem kp_look {H : Hp} {kvs : List (Key × V)} {J : Ix} (h : Paired (KpR H) kvs J) (o : Str) : (valV kvs (Sum.inr o) = none ∧ look J o = none) ∨ ∃ la bs, valV kvs (Sum.inr o) = some (.ref la) ∧ BxL H la bs ∧ look J o = some bs := by
  induction h with
  | nil => exact .inl ⟨rfl, rfl⟩
  | @cons kv x kvs I a t ih =>
    obtain ⟨e1, la, e2, bl⟩ := a
    by_cases e : x.1 = o
    · exact .inr ⟨la, x.2, by rw [valV_pos (by rw [e1, e]), e2], bl, look_pos e⟩
    · rw [valV_neg (fun z => e (by rw [e1] at z; injection z)), look_neg e]
      exact ih
theorem kp_keys {H : Hp} {kvs : List (Key × V)} {J : Ix} (h : Paired (KpR H) kvs J) : kvs.map (·.1) = (J.map (·.1)).map Sum.inr := by
  induction h with
  | nil => rfl
  | cons a t ih => rw [List.map_cons, List.map_cons, List.map_cons, ih, a.1]
theorem IxAt.but {C : Addr} {H H' : Hp} {p q : Addr} {a : IA} {M : Addr → Prop} {I : Ix} {N : Nat} {kvs : List (Key × V)} (h : IxAt C H p a M I N) (hq : H q = some (.dK kvs)) (hne : q ≠ a.p) (g : ∀ b o, H b = some o → b ≠ q → H' b = some o) : IxAt C H' p a M I N := by
  obtain ⟨dx, ho⟩ := h.ob
  obtain ⟨kvs', e, hl, hp⟩ := h.pl
  have nl : ∀ b x, H b = some (.lst x) → b ≠ q := fun b x e => ne_of e hq (fun z => nomatch z)
  have nt : ∀ b x, H b = some (.tup x) → b ≠ q := fun b x e => ne_of e hq (fun z => nomatch z)
  refine ⟨⟨dx, g _ _ ho (ne_of ho hq (fun z => nomatch z))⟩, ⟨kvs', g _ _ e (Ne.symm hne), hl, pl_keep hp (fun b x nm e => ⟨g _ _ e (nl _ _ e), nm⟩) fun b x e => g _ _ e (nt _ _ e)⟩, h.ws.keep fun b o e hb => g _ _ e fun z => ?_, h.nd, h.ok⟩
  rcases hb with hb | ⟨x, hx⟩
  · rcases h.ws.mt b hb with ⟨x, ex⟩ | ⟨x, ex⟩ <;> (rw [z, hq] at ex; cases ex)
  · rw [z, hq, hx] at e; cases e
end L2
namespace L2
open PySem PySem.Spec PyProof.Rows
theorem rd_cut {t u : TS} {D : Ends} {σ : St} {H : Hp} (Post : St → Hp → Prop) (h1 : ∀ R : St → Hp → Prop, (∀ σ' H', Post σ' H' → R σ' H') → t { D with nx := R } σ H) (h2 : ∀ σ' H', Post σ' H' → u D σ' H') : tSeq t u D σ H := h1 _ h2
def putJ (J : Ix) (o : Str) (bs : List RwB) : Ix := if (J.any fun x => decide (x.1 = o)) = true then J.map (fun x => if x.1 = o then (x.1, bs) else x) else J ++ [(o, bs)]
theorem any_look {J : Ix} {o : Str} : (J.any fun x => decide (x.1 = o)) = (look J o).isSome := by
  induction J with
  | nil => rfl
  | cons x J ih =>
    rw [List.any_cons]
    by_cases e : x.1 = o
    · rw [look_pos e, decide_eq_true e]; rfl
    · rw [look_neg e, decide_eq_false e, Bool.false_or, ih]
theorem putJ_keys {J : Ix} {o : Str} {bs : List RwB} (h : (J.any fun x => decide (x.1 = o)) = true) : (putJ J o bs).map (·.1) = J.map (·.1) := by
  unfold putJ
  rw [if_pos h, List.map_map]
  refine List.map_congr_left fun x _ => ?_
  show (if x.1 = o then (x.1, bs) else x).1 = x.1
  split <;> rfl
theorem putJ_len (J : Ix) (o : Str) (bs : List RwB) : (putJ J o bs).length ≤ J.length + 1 := by
  unfold putJ
  split
  · rw [List.length_map]; omega
  · rw [List.length_append]; exact Nat.le_refl _
theorem putJ_nd {J : Ix} {o : Str} {bs : List RwB} (nd : (J.map (·.1)).Nodup) : ((putJ J o bs).map (·.1)).Nodup := by
  by_cases h : (J.any fun x => decide (x.1 = o)) = true
  · rw [putJ_keys h]; exact nd
  · unfold putJ
    rw [if_neg h, List.map_append, List.nodup_append]
    refine ⟨nd, by simp, fun x hx y hy z => ?_⟩
    have hy : y = o := by simpa using hy
    have hn : look J o = none := by
      cases e : look J o with
      | none => rfl
      | some b => rw [any_look, e] at h; exact absurd rfl h
    exact look_none.mp hn (by rw [← hy, ← z]; exact hx)
theorem look_map {J : Ix} {o o' : Str} {bs : List RwB} : look (J.map fun x => if x.1 = o then (x.1, bs) else x) o' = (look J o').map fun b => if o' = o then bs else b := by
  induction J with
  | nil => rfl
  | cons x J ih =>
    rw [List.map_cons]
    by_cases e : x.1 = o
    · rw [if_pos e]
      by_cases e' : x.1 = o'
      · rw [look_pos (show ((x.1, bs) : Str × List RwB).1 = o' from e'), look_pos e', Option.map_some, if_pos (e'.symm.trans e)]
      · rw [look_neg (show ¬ ((x.1, bs) : Str × List RwB).1 = o' from e'), look_neg e', ih]
    · rw [if_neg e]
      by_cases e' : x.1 = o'
      · rw [look_pos e', look_pos e', Option.map_some, if_neg (fun z => e (e'.trans z))]
      · rw [look_neg e', look_neg e', ih]
theorem look_put (J : Ix) (o o' : Str) (bs : List RwB) : look (putJ J o bs) o' = if o' = o then some bs else look J o' := by
  unfold putJ
  by_cases h : (J.any fun x => decide (x.1 = o)) = true
  · rw [if_pos h, look_map]
    by_cases e : o' = o
    · rw [any_look] at h
      rw [if_pos e, e]
      cases el : look J o with
      | none => rw [el] at h; cases h
      | some b => rw [Option.map_some, if_pos rfl]
    · rw [if_neg e]
      cases look J o' with
      | none => rfl
      | some b => rw [Option.map_some, if_neg e]
  · have hn : look J o = none := by
      cases e : look J o with
      | none => rfl
      | some b => rw [any_look, e] at h; exact absurd rfl h
    rw [if_neg h]
    exact look_snoc J o o' bs hn
theorem kp_put {H : Hp} {kvs : List (Key × V)} {J : Ix} (h : Paired (KpR H) kvs J) {o : Str} {l : Addr} {bs : List RwB} (hb : BxL H l bs) : Paired (KpR H) (putK kvs (Sum.inr o) (.ref l)) (putJ J o bs) := by
  have e : (kvs.any fun kv => decide (kv.1 = (Sum.inr o : Key))) = (J.any fun x => decide (x.1 = o)) := by
    rw [any_look, valV_any]
    rcases kp_look h o with ⟨z1, z2⟩ | ⟨la, b, z1, _, z2⟩ <;> rw [z1, z2] <;> rfl
  unfold putK putJ
  rw [e]
  by_cases hc : (J.any fun x => decide (x.1 = o)) = true
  · rw [if_pos hc, if_pos hc]
    clear e hc
    induction h with
    | nil => exact .nil
    | @cons kv x kvs J a t ih =>
      rw [List.map_cons, List.map_cons]
      refine .cons ?_ ih
      by_cases ex : x.1 = o
      · rw [if_pos (show kv.1 = Sum.inr o from a.1.trans (congrArg Sum.inr ex)), if_pos ex]
        exact ⟨a.1, l, rfl, hb⟩
      · rw [if_neg (show ¬ kv.1 = Sum.inr o from fun z => ex (Sum.inr.inj (a.1.symm.trans z))), if_neg ex]
        exact a
  · rw [if_neg hc, if_neg hc]
    exact paired_snoc h ⟨rfl, l, rfl, hb⟩
theorem kp_drop {H : Hp} {kvs : List (Key × V)} {J : Ix} (h : Paired (KpR H) kvs J) (o : Str) : Paired (KpR H) (dropK kvs (Sum.inr o)) (dropI J o) := by
  induction h with
  | nil => exact .nil
  | @cons kv x kvs I a t ih =>
    by_cases e : x.1 = o
    · rw [dropK_pos (a.1.trans (congrArg Sum.inr e)), dropI_pos e]; exact ih
    · rw [dropK_neg (fun z => e (by have := a.1.symm.trans z; injection this)), dropI_neg e]; exact .cons a ih
def NmK (kvs : List (Key × V)) (M : Addr → Prop) : Prop := ∀ kv ∈ kvs, ∀ la, kv.2 = .ref la → ¬ M la
theorem NmK.drop {kvs : List (Key × V)} {M : Addr → Prop} (h : NmK kvs M) (k : Key) : NmK (dropK kvs k) M := fun kv hk => h kv (dropK_mem hk)
theorem NmK.put {kvs : List (Key × V)} {M : Addr → Prop} {k : Key} {l : Addr} (h : NmK kvs M) (hl : ¬ M l) : NmK (putK kvs k (.ref l)) M := fun kv hk la e => by
  unfold putK at hk
  split at hk
  · obtain ⟨kv', hk', rfl⟩ := List.mem_map.mp hk
    split at e
    · injection e with e; exact e ▸ hl
    · exact h kv' hk' la e
  · rcases List.mem_append.mp hk with hk | hk
    · exact h kv hk la e
    · rw [List.mem_singleton.mp hk] at e
      injection e with e
      exact e ▸ hl
theorem tk_dk {C : Addr} {H : Hp} {p : Addr} {a : IA} {M : Addr → Prop} {I : Ix} {N : Nat} (h : IxAt C H p a M I N) : (∀ b x, H b = some (.tup x) → ¬ mm a M b) ∧ (∀ b C dx fs, H b = some (.ins C dx fs) → ¬ mm a M b) ∧ (∀ b x, H b = some (.dK x) → b ≠ a.p → ¬ mm a M b) ∧ ∀ b x, H b = some (.lst x) → ¬ M b → ¬ mm a M b := by
  obtain ⟨kvs, e, _, _⟩ := h.pl
  refine ⟨fun b x eb z => ?_, fun b C dx fs eb z => ?_, fun b x eb hb z => ?_, fun b x eb hb z => ?_⟩
  · exact z.elim (fun z => by rw [z, e] at eb; cases eb) (h.ws.tup eb)
  · exact z.elim (fun z => by rw [z, e] at eb; cases eb) (h.ws.ins eb)
  · exact z.elim hb (h.ws.dk eb)
  · exact z.elim (fun z => by rw [z, e] at eb; cases eb) hb
theorem kp_fr {C : Addr} {H H' : Hp} {p : Addr} {a : IA} {M M' : Addr → Prop} {I J : Ix} {N : Nat} {kvs : List (Key × V)} (h : IxAt C H p a M I N) (hk : Paired (KpR H) kvs J) (hm : NmK kvs M) (f : Fr2 H H' (mm a M) (mm a M')) : Paired (KpR H') kvs J ∧ NmK kvs M' := by
  obtain ⟨d1, d2, d3, d4⟩ := tk_dk h
  refine ⟨kp_keep hk (fun b x e ⟨kv, hkv, ek⟩ => f.keep _ _ e (d4 b x e (hm kv hkv b ek))) fun b x e => f.keep _ _ e (d1 b x e), fun kv hkv la ek z => ?_⟩
  obtain ⟨i, hi⟩ := List.getElem?_of_mem hkv
  obtain ⟨x, _, _, la', e2, ⟨ps, e3, _⟩⟩ := paired_get hk hi
  rw [ek] at e2
  injection e2 with e2
  subst e2
  rcases f.new la (.inr z) with z | z
  · exact d4 la _ e3 (hm kv hkv la ek) z
  · rw [e3] at z; cases z
end L2
namespace L2
open PySem PySem.Spec PyProof.Rows
inductive rNeNil (x : V) (y : V) (H : Hp) (Q : VK) : Prop
  | mk (a b xs) (h1 : x = .ref a) (h2 : y = .ref b) (h3 : H a = some (.lst xs)) (h4 : H b = some (.lst [])) (h6 : Q (.bl (!xs.isEmpty)) H) : rNeNil x y H Q
theorem op_neNil {X : Cx} (hu : X.A.units + 64 < cLine) : OpR X (compareOp .NotEq) rNeNil := by
  intro pins s σ H x y v u Q I r1 r2 h
  obtain ⟨a, b, xs, rfl, rfl, ea, eb, q⟩ := h
  cases r1; cases r2
  obtain ⟨us, v1, o1⟩ := isLst I ea
  obtain ⟨vs, v2, o2⟩ := isLst I eb
  have l1 := Paired.length v1
  have l2 := Paired.length v2
  cases xs with
  | nil =>
    refine SeqAt.RcNeAt.lists (e := fun _ => true) o1 o2 (by rw [List.size_toArray, List.size_toArray, ← l1, ← l2]) (by omega) (vals_same rfl v1 v2) _ _ _ _ ?_
    rw [all_range_true]
    exact ⟨.bl false, H, I, rfl, q⟩
  | cons z zs =>
    refine SeqAt.RcNeAt.lists_lengths o1 o2 (by rw [List.size_toArray, List.size_toArray, ← l1, ← l2]; rfl) (by omega) _ _ _ _ ?_
    exact ⟨.bl true, H, I, rfl, q⟩
end L2
namespace Mine
open PySem L2
abbrev sCellAt : Stmt := top 27
theorem laid {H : Hp} {p : Addr} {o : HO} (np : H p = none) : Grow H (upd H p o) ∧ upd H p o p = some o := ⟨Grow.new np, upd_same⟩
def AllP (P : V → Prop) (xs : List V) : Prop := ∀ x ∈ xs, P x
theorem AllP.snoc {P : V → Prop} {xs : List V} {x : V} (h : AllP P xs) (hx : P x) : AllP P (xs ++ [x]) := fun y hy => by
  rcases List.mem_append.mp hy with hy | hy
  · exact h y hy
  · rw [List.mem_singleton.mp hy]; exact hx
theorem AllP.nil {P : V → Prop} : AllP P [] := fun _ z => nomatch z
theorem AllP.mono {P Q : V → Prop} {xs : List V} (h : AllP P xs) (g : ∀ x, P x → Q x) : AllP Q xs := fun x hx => g x (h x hx)
theorem wh0 {K : PySem.W.Frag} {H : Hp} {lo hi i : Int} (h : (decide (lo ≤ i) && decide (i ≤ hi)) = false) : WholeV K H lo hi (.int i) false := by
  have q := WholeV.int (K := K) (H := H) (lo := lo) (hi := hi) i rfl
  rwa [h] at q
theorem paired_rep {P : V → Bool → Prop} {xs : List V} {c : Bool} (h : ∀ x ∈ xs, P x c) : Paired P xs (List.replicate xs.length c) := by
  induction xs with
  | nil => exact .nil
  | cons x xs ih => exact .cons (h x List.mem_cons_self) (ih fun y hy => h y (List.mem_cons_of_mem _ hy))
theorem paired_app {α β : Type} {P : α → β → Prop} {xs xs' : List α} {ys ys' : List β} (h : Paired P xs ys) (h' : Paired P xs' ys') : Paired P (xs ++ xs') (ys ++ ys') := by
  induction h with
  | nil => exact h'
  | cons a t ih => exact .cons a ih
theorem boxes_bad {K : PySem.W.Frag} {H : Hp} {l : Addr} {A B : List V} {y : V} (e : H l = some (.lst ((A ++ [y]) ++ B))) (hl : A.length + B.length < 400) (ha : ∀ x ∈ A, BoxV K H x true) (hb : ∀ x ∈ B, BoxV K H x true) (hy : BoxV K H y false) : BoxesV K H (.ref l) false := by
  have q := BoxesV.all (K := K) (H := H) (x := .ref l) l _ ((List.replicate A.length true ++ [false]) ++ List.replicate B.length true) rfl e (by rw [List.length_append, List.length_append, List.length_singleton]; omega) (paired_app (paired_app (paired_rep ha) (.cons hy .nil)) (paired_rep hb))
  rwa [show ((List.replicate A.length true ++ [false]) ++ List.replicate B.length true).all id = false from by simp] at q
structure MCX (P : Program) (w : World) (K : PySem.W.Frag) (mg : Str → Option Value) (base : Heap) (C : Addr) (m : Str) (k : Nat) (ps : List Str) (ds : List Value) (dvs : List V) (sp : Sp) (f : Addr) (fd : FuncData) : Prop where
  cl : Cls K C
  mt : Meth K C m f
  ok : FnOk P w K mg base (CXR P w) k f fd ps sp
  bd : Binds K fd ps ds
  dv : Vals dvs ds
theorem len5 {α : Type} {l : List α} (h : l.length = 5) : ∃ a b c d e, l = [a, b, c, d, e] := by
  match l, h with
  | [a, b, c, d, e], _ => exact ⟨a, b, c, d, e, rfl⟩
theorem mro_self (C U : Addr) : (xMro C U).contains (Value.ref C) = true := by
  unfold xMro
  simp
structure Kept (C : Addr) (H : Hp) (p q : Addr) (a : IA) (M : Addr → Prop) (I J : Ix) (N : Nat) (kvs : List (Key × V)) : Prop where
  ix : IxAt C H p a M I N
  kq : H q = some (.dK kvs)
  kp : Paired (KpR H) kvs J
  nd : (J.map (·.1)).Nodup
  eq : ∀ o, look I o = look J o
  qp : q ≠ a.p
  li : I.length < 64
  lj : J.length < 64
theorem Kept.grow {C : Addr} {H H' : Hp} {p q : Addr} {a : IA} {M : Addr → Prop} {I J : Ix} {N : Nat} {kvs : List (Key × V)} (h : Kept C H p q a M I J N kvs) (g : Grow H H') : Kept C H' p q a M I J N kvs :=
  ⟨h.ix.keep g, g _ _ h.kq, kp_keep h.kp (fun b x e _ => g _ _ e) fun b x e => g _ _ e, h.nd, h.eq, h.qp, h.li, h.lj⟩
theorem own_good {K : PySem.W.Frag} {H : Hp} {o : Str} (h : o ∈ owners12) : OwnerV K H (.str o) true := by
  obtain ⟨h1, h2⟩ := owners_ok o h
  have q := OwnerV.str (K := K) (H := H) o rfl (small1000 (by omega))
  rwa [decide_eq_true (by omega), decide_eq_true (by omega)] at q
theorem at_len {xs : List V} {n : Int} {k : Nat} (h0 : 0 ≤ n) (h1 : n < k) (hl : xs.length = k) : ∃ x ∈ xs, atI xs n = some x := by
  obtain ⟨j, rfl⟩ : ∃ j : Nat, n = (j : Int) := ⟨n.toNat, by omega⟩
  have hj : j < xs.length := by omega
  exact ⟨xs[j], List.getElem_mem hj, atI_nat (List.getElem?_eq_getElem hj)⟩
theorem tk_all {C : Addr} {K : PySem.W.Frag} {H : Hp} {p : Addr} {a : IA} {M : Addr → Prop} {I : Ix} {N : Nat} {o : Str} {Q : VK} {E : XK} (h : IxAt C H p a M I N) (q : ∀ H' M', Fr3 a H H' M M' → IxAt C H' p a M' (dropI I o) N → Q (.bl (look I o).isSome) H') : spTake C K [.ref p, .str o] H Q E := by
  cases hl : look I o with
  | none => exact ⟨p, a, M, I, N, _, false, rfl, h, .no o rfl hl, fun _ => by have := q H M Fr3.refl (by rw [dropI_no hl]; exact h); rw [hl] at this; exact this, fun _ _ z => nomatch z⟩
  | some bs => exact ⟨p, a, M, I, N, _, true, rfl, h, .yes o bs rfl hl, (fun z => nomatch z), fun o' eo _ H' M' f i => by injection eo with eo; subst eo; have := q H' M' f i; rw [hl] at this; exact this⟩
theorem fresh_not {C : Addr} {H : Hp} {p : Addr} {a : IA} {M : Addr → Prop} {I : Ix} {N : Nat} (h : IxAt C H p a M I N) {b : Addr} (nb : H b = none) : ¬ mm a M b := fun z => by
  obtain ⟨kvs, e, _, _⟩ := h.pl
  rcases z with z | z
  · rw [z, e] at nb; cases nb
  · rcases h.ws.mt b z with ⟨x, q⟩ | ⟨x, q⟩ <;> (rw [nb] at q; cases q)
def spCellAt (K : PySem.W.Frag) : Sp := fun vs H Q _ => ∃ (a : Addr) (ns : List Int) (k : Int), vs = [.ref a, .int k] ∧ SqL K H a (ns.map V.int) ∧ 0 ≤ k ∧ ∀ n : Int, Q (.int n) H
section
variable {P : Program} {w : World} {K : PySem.W.Frag} {mg : Str → Option Value} {base : Heap}
theorem scCellAt : FnScope ["_law_script", "_law_k"] ["_law_script", "_law_k"] (defScope sCellAt) := ⟨rfl, rfl, rfl, by decide +kernel, rfl, by decide +kernel, by decide +kernel⟩
theorem ok_cellAt {f : Addr} {fd : FuncData} (F : Fun K "_law_cell_at" "_law_cell_at" sCellAt f fd) (N : Free mg) : FnOk P w K mg base CX0 1 f fd ["_law_script", "_law_k"] (spCellAt K) := by
  refine F.ok (k := 0) scCellAt (fun vs H Q E h => ?_) (fun cdv A outer s H vs Q E hr h => ?_)
  · obtain ⟨a, ns, k, rfl, _⟩ := h
    rfl
  · obtain ⟨a, ns, k, rfl, hS, hk, q⟩ := h
    have hu := hu_of hr
    refine ⟨_, (pss_cons (ps_if (pt_cmpR op_lt (pv 1) (pe_callB call_len_seq (by rfl) N.len PySem.boot_len (pa_kons (pv 0) pa_nil)) (nomark _)) (pss_one (ps_ret (pe_ix ix_list (pv 0) (pv 1) (fun _ _ => rfl)))) pss_nil)
      (pss_one (ps_ret pe_int))), ?_⟩
    refine rd_seq (rd_if ⟨_, rfl, _, rfl, a, _, rfl, .inl hS, _, _, rfl, rfl, _, rfl, ?_⟩)
    refine ite2 (fun hlt => ?_) (fun _ => ?_)
    · have hlt : k < ((ns.map V.int).length : Int) := of_decide_eq_true hlt
      rw [List.length_map] at hlt
      obtain ⟨j, rfl⟩ : ∃ j : Nat, k = (j : Int) := ⟨k.toNat, by omega⟩
      have hk2 : j < ns.length := by omega
      refine ⟨_, rfl, _, rfl, a, _, (j : Int), .int ns[j], rfl, rfl, hS, atI_nat ?_, q _⟩
      rw [List.getElem?_map, List.getElem?_eq_getElem hk2]
      rfl
    · exact rd_next (q 0)
end
structure CalX (P : Program) (w : World) (K : PySem.W.Frag) (mg : Str → Option Value) (base : Heap) (x : Str) (k : Nat) (ps : List Str) (sp : Sp) (f : Addr) (fd : FuncData) : Prop where
  ok : FnOk P w K mg base (CXR P w) k f fd ps sp
  nm : mg x = some (.ref f)
  kp : PySem.W.keepIn K (.ref f) = true
  bd : Binds K fd ps []
section
variable {P : Program} {w : World} {K : PySem.W.Frag} {mg : Str → Option Value} {base : Heap}
end
section
variable {P : Program} {w : World} {K : PySem.W.Frag} {mg : Str → Option Value} {base : Heap}
end
end Mine
namespace Mine
open PySem L2
end Mine
namespace Mine
open PySem L2
abbrev sSpoilt : Stmt := top 42
def spSpoilt (C : Addr) : Sp := fun vs H Q _ => ∃ (p dx : Addr) (a : IA) (c : Int), vs = [.ref p, .int c] ∧ H p = some (.ins C dx (iflds a)) ∧ ∀ H', Grow H H' → Q (.bl true) H'
section
variable {P : Program} {w : World} {K : PySem.W.Frag} {mg : Str → Option Value} {base : Heap}
theorem scSpoilt : FnScope ["_law_index", "_law_cell", "_law_boxes_here", "_law_wrong", "_law_refused"] ["_law_index", "_law_cell"] (defScope sSpoilt) := ⟨rfl, rfl, rfl, by decide +kernel, rfl, by decide +kernel, by decide +kernel⟩
theorem ok_spoilt {f f1 f2 f3 f4 C CN CB U : Addr} {fd : FuncData} (F : Fun K "_law_spoilt" "_law_spoilt" sSpoilt f fd) {fd1 : FuncData} (CM : Cal P w K mg base "_law_mix" 1 ["_law_cell", "_law_k"] spMix f1 fd1) {fd2 : FuncData} (CX : Cal P w K mg base "_law_boxes" 3 ["_law_cell", "_law_digits"] spBoxesL f2 fd2) {fd3 : FuncData} (CO : Cal P w K mg base "_law_owners" 1 [] spOwnersL f3 fd3) (RB : Rf0 K mg "NoBox" CB U) (hB : hIn K CB = true) {fd4 : FuncData} (MP : MCX P w K mg base C "put" 6 ["self", "owner", "boxes"] [] [] (spPutX C CN CB K) f4 fd4) : FnOk P w K mg base CX0 7 f fd ["_law_index", "_law_cell"] (spSpoilt C) := by
  refine F.ok (k := 6) scSpoilt (fun vs H Q E h => ?_) (fun cdv A outer s H vs Q E hr h => ?_)
  · obtain ⟨p, dx, a, c, rfl, _⟩ := h
    rfl
  · obtain ⟨p, dx, a, c, rfl, ho, hq⟩ := h
    have hu := hu_of hr
    refine ⟨_, (pss_cons (ps_set (i := 2) scSpoilt.nd rfl (Or.inl rfl) (pe_call CX.ok (hr.mono (by decide)) rfl CX.nm CX.kp CX.bd .nil pass0 (pa_kons (pe_call CM.ok (hr.mono (by decide)) rfl CM.nm CM.kp CM.bd .nil pass0 (pa_kons (pv 1) (pa_kons pe_int pa_nil))) (pa_kons pe_bl pa_nil))))
      (@pss_cons _ _ _ _ _ (@ps_set (i := 3) _ _ _ _ _ _ scSpoilt.nd rfl (Or.inl rfl) (@pe_ix _ _ _ _ _ _ _ ix_list (@pe_lst _ _ _ _ (@pa_kons _ _ _ _ _ (@pe_tup _ _ _ _ _ (@pa_kons _ _ _ _ _ pe_str (@pa_kons _ _ _ _ _ pe_int (@pa_kons _ _ _ _ _ pe_int pa_nil rfl) rfl) rfl)) (@pa_kons _ _ _ _ _ (@pe_tup _ _ _ _ _ (@pa_kons _ _ _ _ _ pe_str (@pa_kons _ _ _ _ _ pe_int (@pa_kons _ _ _ _ _ pe_int pa_nil rfl) rfl) rfl)) (@pa_kons _ _ _ _ _ (@pe_tup _ _ _ _ _ (@pa_kons _ _ _ _ _ pe_str (@pa_kons _ _ _ _ _ pe_int (@pa_kons _ _ _ _ _ pe_int pa_nil rfl) rfl) rfl)) (@pa_kons _ _ _ _ _ pe_non (@pa_kons _ _ _ _ _ (@pe_lst _ _ _ _ (@pa_kons _ _ _ _ _ pe_str (@pa_kons _ _ _ _ _ pe_int (@pa_kons _ _ _ _ _ pe_int pa_nil rfl) rfl) rfl)) (@pa_kons _ _ _ _ _ (@pe_tup _ _ _ _ _ (@pa_kons _ _ _ _ _ pe_str (@pa_kons _ _ _ _ _ pe_int pa_nil rfl) rfl)) pa_nil rfl) rfl) rfl) rfl) rfl) rfl)) (@pe_op _ _ _ _ _ _ _ _ op_mod (pe_call CM.ok (hr.mono (by decide)) rfl CM.nm CM.kp CM.bd .nil pass0 (@pa_kons _ _ _ _ _ (pv 1) (@pa_kons _ _ _ _ _ pe_int pa_nil rfl) rfl)) pe_int) (fun _ _ => rfl)) (by rfl) (by first | exact .inl rfl | exact .inr rfl))
      (pss_cons (ps_set (i := 4) scSpoilt.nd rfl (Or.inl rfl) pe_bl)
      (pss_cons (ps_try rfl rfl (fun E1 xe pn hp => (pss_one (ps_expr (pe_meth (pv 0) MP.cl MP.mt MP.ok (hr.mono (by decide)) MP.bd MP.dv hp (pa_kons (pe_ix (r := rIxL K) ix_list (pe_call0 CO.ok (hr.mono (by decide)) rfl CO.nm CO.kp CO.bd .nil pass0) (pe_op op_mod (pe_call CM.ok (hr.mono (by decide)) rfl CM.nm CM.kp CM.bd .nil pass0 (pa_kons (pv 1) (pa_kons pe_int pa_nil))) pe_int) (fun _ _ => rfl)) (pa_kons (@pe_op _ _ _ _ _ _ _ _ op_cat (@pe_op _ _ _ _ _ _ _ _ op_cat (@pe_op _ _ _ _ _ _ _ _ op_cat (@pe_lst _ _ _ _ (@pa_kons _ _ _ _ _ (@pe_tup _ _ _ _ _ (@pa_kons _ _ _ _ _ pe_str (@pa_kons _ _ _ _ _ pe_int (@pa_kons _ _ _ _ _ pe_int pa_nil rfl) rfl) rfl)) pa_nil rfl)) (pv 2)) (@pe_lst _ _ _ _ (@pa_kons _ _ _ _ _ (pv 3) pa_nil rfl))) (pv 2)) pa_nil)))))) (ph_only hr.hd hB rfl RB.nm (fun a => (pss_one (ps_set (i := 4) scSpoilt.nd rfl (Or.inl rfl) pe_bl))) ph_nil))
      (pss_one (ps_ret (pv 4))))))), ?_⟩
    refine rd_seq (rd_asg ⟨_, rfl, c, 45, rfl, fun n2 _ _ => ⟨n2, false, rfl, fun lh G0 bs nlh g0 hbx hl6 hok _ => ?_⟩⟩)
    dsimp only [gName, List.set_cons_zero, List.set_cons_succ]
    refine rd_seq (rd_asg ⟨by show 3 ≤ sizeLine; decide, fun r1 n1 => ?_⟩)
    obtain ⟨g1, e1⟩ := laid (o := .tup [V.str (Str.ofString "a"), V.int 5, V.int 400]) n1
    generalize upd G0 r1 _ = G1 at g1 e1 ⊢
    have a1 : AllP (fun x => BoxV K G1 x false) [V.ref r1] := AllP.nil.snoc (.whole _ _ _ 5 false rfl e1 (.at (x := Str.ofString "a") (by decide +kernel) (by decide +kernel)) (by decide) (by decide) (wh0 (by decide)))
    refine ⟨by show 3 ≤ sizeLine; decide, fun r2 n2 => ?_⟩
    obtain ⟨g2, e2⟩ := laid (o := .tup [V.str (Str.ofString "A"), V.int 1, V.int 2]) n2
    generalize upd G1 r2 _ = G2 at g2 e2 ⊢
    have a2 : AllP (fun x => BoxV K G2 x false) [V.ref r1, V.ref r2] := (a1.mono fun _ h => BoxV.grow h g2).snoc (.name _ _ _ _ rfl e2 (.at (x := Str.ofString "A") (by decide +kernel) (by decide +kernel)))
    refine ⟨by show 3 ≤ sizeLine; decide, fun r3 n3 => ?_⟩
    obtain ⟨g3, e3⟩ := laid (o := .tup [V.str (Str.ofString "a"), V.int 3, V.int 2]) n3
    generalize upd G2 r3 _ = G3 at g3 e3 ⊢
    have a3 : AllP (fun x => BoxV K G3 x false) [V.ref r1, V.ref r2, V.ref r3] := (a2.mono fun _ h => BoxV.grow h g3).snoc (.whole _ _ _ 3 false rfl e3 (.at (x := Str.ofString "a") (by decide +kernel) (by decide +kernel)) (by decide) (by decide) (wh0 (by decide)))
    refine ⟨by show 3 ≤ sizeLine; decide, fun r4 n4 => ?_⟩
    obtain ⟨g4, e4⟩ := laid (o := .lst [V.str (Str.ofString "a"), V.int 1, V.int 2]) n4
    generalize upd G3 r4 _ = G4 at g4 e4 ⊢
    have a4 : AllP (fun x => BoxV K G4 x false) [V.ref r1, V.ref r2, V.ref r3, V.non, V.ref r4] := ((a3.snoc (.ty ⟨_, .non, by rfl⟩)).mono fun _ h => BoxV.grow h g4).snoc (.ty ⟨_, .lst e4, by rfl⟩)
    refine ⟨by show 2 ≤ sizeLine; decide, fun r5 n5 => ?_⟩
    obtain ⟨g5, e5⟩ := laid (o := .tup [V.str (Str.ofString "ab"), V.int 0]) n5
    generalize upd G4 r5 _ = G5 at g5 e5 ⊢
    have a5 : AllP (fun x => BoxV K G5 x false) [V.ref r1, V.ref r2, V.ref r3, V.non, V.ref r4, V.ref r5] := (a4.mono fun _ h => BoxV.grow h g5).snoc (.len _ _ rfl e5 (by decide))
    refine ⟨by show 6 ≤ sizeLine; decide, fun lw nlw => ?_⟩
    obtain ⟨gw, ew⟩ := laid (o := .lst [V.ref r1, V.ref r2, V.ref r3, V.non, V.ref r4, V.ref r5]) nlw
    generalize upd G5 lw _ = Gw at gw ew ⊢
    have aw := a5.mono fun _ h => BoxV.grow h gw
    refine ⟨_, rfl, c, 46, rfl, fun n3 _ _ => ?_⟩
    obtain ⟨wr, hwr, ewr⟩ := at_len (k := 6) (Int.emod_nonneg n3 (show (6 : Int) ≠ 0 by decide)) (Int.emod_lt_of_pos n3 (show (0 : Int) < 6 by decide)) (show [V.ref r1, V.ref r2, V.ref r3, V.non, V.ref r4, V.ref r5].length = 6 from rfl)
    refine ⟨_, _, rfl, rfl, by show (0 : Int) < 6; decide, lw, _, _, _, rfl, rfl, SqL.of ew, ewr, ?_⟩
    dsimp only [gName, List.set_cons_zero, List.set_cons_succ]
    have hwr := aw wr hwr
    have g0w : Grow G0 Gw := (g1.trans (g2.trans (g3.trans (g4.trans (g5))))).trans gw
    refine rd_seq (rd_asg ?_)
    dsimp only [gName, List.set_cons_zero, List.set_cons_succ, tC]
    obtain ⟨ps, eps, rps⟩ := hbx
    have epw := g0w _ _ eps
    have rpw : RowB Gw ps bs := Paired.mapP rps fun _ _ e => g0w _ _ e
    have how := g0w _ _ (g0 _ _ ho)
    have g0g : Grow H Gw := g0.trans g0w
    refine rd_seq ⟨fun c oa H' => c = Value.ref CB ∧ ∃ a, oa = some a ∧ Grow Gw H', ?_, ?_⟩
    · refine rd_expr ⟨_, rfl, p, dx, _, rfl, how, if_no a (by decide +kernel) (by decide +kernel) (by decide +kernel), rfl, fun lo nlo => ?_⟩
      obtain ⟨ga, ea⟩ := laid (o := .lst (owners12.map V.str)) nlo
      generalize upd Gw lo _ = Ga at ga ea ⊢
      refine ⟨_, rfl, c, 47, rfl, fun n4 _ _ => ?_⟩
      obtain ⟨ow, how', eow⟩ := at_nth (ys := owners12) (Int.emod_nonneg n4 (show (12 : Int) ≠ 0 by decide)) (Int.emod_lt_of_pos n4 (show (0 : Int) < 12 by decide))
      refine ⟨_, _, rfl, rfl, by show (0 : Int) < 12; decide, lo, _, _, _, rfl, rfl, SqL.of ea, eow, ?_⟩
      refine ⟨by show 3 ≤ sizeLine; decide, fun t1 m1 => ?_⟩
      obtain ⟨gb, eb⟩ := laid (o := .tup [V.str (Str.ofString "a"), V.int 0, V.int 399]) m1
      generalize upd Ga t1 _ = Gb at gb eb ⊢
      refine ⟨by show 1 ≤ sizeLine; decide, fun l1 m2 => ?_⟩
      obtain ⟨gc, ec⟩ := laid (o := .lst [V.ref t1]) m2
      generalize upd Gb l1 _ = Gc at gc ec ⊢
      have gwc := ga.trans (gb.trans gc)
      refine ⟨_, rfl, l1, lh, _, _, rfl, rfl, ec, gwc _ _ epw, by rw [List.length_map, show ps.length = bs.length from Paired.length rps]; exact Nat.le_of_lt (small1000 (by show 1 + _ ≤ 1000; omega)), fun l2 m3 => ?_⟩
      obtain ⟨gd, ed⟩ := laid (o := .lst ([V.ref t1] ++ ps.map V.ref)) m3
      generalize upd Gc l2 _ = Gd at gd ed ⊢
      refine ⟨_, rfl, by show 1 ≤ sizeLine; decide, fun l3 m4 => ?_⟩
      obtain ⟨ge, ee⟩ := laid (o := .lst [wr]) m4
      generalize upd Gd l3 _ = Ge at ge ee ⊢
      refine ⟨l2, l3, _, _, rfl, rfl, ge _ _ ed, ee, by rw [List.length_append, List.length_map, show ps.length = bs.length from Paired.length rps]; exact Nat.le_of_lt (small1000 (by show 1 + _ + 1 ≤ 1000; omega)), fun l4 m5 => ?_⟩
      obtain ⟨gf, ef⟩ := laid (o := .lst (([V.ref t1] ++ ps.map V.ref) ++ [wr])) m5
      generalize upd Ge l4 _ = Gf at gf ef ⊢
      have gwf := gwc.trans (gd.trans (ge.trans gf))
      refine ⟨_, rfl, l4, lh, _, _, rfl, rfl, ef, gwf _ _ epw, by rw [List.length_append, List.length_append, List.length_map, show ps.length = bs.length from Paired.length rps]; exact Nat.le_of_lt (small1000 (by show 1 + _ + 1 + _ ≤ 1000; omega)), fun l5 m6 => ?_⟩
      obtain ⟨gg, eg⟩ := laid (o := .lst ((([V.ref t1] ++ ps.map V.ref) ++ [wr]) ++ ps.map V.ref)) m6
      generalize upd Gf l5 _ = Gg at gg eg ⊢
      have gwg := gwf.trans gg
      have good : ∀ x ∈ ps.map V.ref, BoxV K Gg x true := fun x hx => by
        obtain ⟨pt, hp, rfl⟩ := List.mem_map.mp hx
        obtain ⟨i, hi⟩ := List.getElem?_of_mem hp
        obtain ⟨r, er, et⟩ := paired_get rpw hi
        exact BoxV.good (gwg _ _ et) (hok r (List.mem_of_getElem? er))
      have g1g : BoxV K Gg (.ref t1) true := BoxV.good (r := (Str.ofString "a", 0, 399)) (gg _ _ (gf _ _ (ge _ _ (gd _ _ (gc _ _ eb))))) ⟨by decide +kernel, by decide +kernel, by decide, by decide, by decide⟩
      have hpl : ps.length = bs.length := Paired.length rps
      refine ⟨p, .str ow, .ref l5, dx, a, rfl, gwg _ _ how, .inr ⟨own_good how', boxes_bad eg (by rw [List.length_append, List.length_map]; show 1 + ps.length + ps.length < 400; omega) (fun x hx => ?_) good (hwr.grow gwg), fun a H' g n xa => ⟨rfl, a, rfl, gwg.trans g⟩⟩⟩
      rcases List.mem_append.mp hx with hx | hx
      · rw [List.mem_singleton.mp hx]; exact g1g
      · exact good x hx
    rintro C' ea Dd H2 σ' hl hx1 ⟨ec, a', ea', g2⟩
    cases ec
    cases ea'
    obtain ⟨s0, s1, s2, s3, s4, rfl⟩ := len5 hl
    refine ⟨U, RB.cl, ?_⟩
    rw [if_pos (mro_self _ _)]
    refine rd_asg ?_
    dsimp only [gName, List.set_cons_zero, List.set_cons_succ, tC]
    exact ⟨_, rfl, hq _ (g0g.trans g2)⟩
end
end Mine
namespace Mine
open PySem L2
abbrev sFilled : Stmt := top 43
def Scr (K : PySem.W.Frag) (H : Hp) (Z : Addr → Prop) (sa : Addr) (xs : List V) : Prop :=
  (Rd H sa (.lst xs) ∧ ¬ Z sa) ∨ ∃ (o : Obj) (its : Array Value) (n : Nat), K.lookup sa = some o ∧ o.cls = .type "list" ∧ o.dict = none ∧ o.data = .seq its n ∧ its.size ≤ sizeLine ∧ Vals xs its.toList
theorem Scr.sq {K : PySem.W.Frag} {H : Hp} {Z : Addr → Prop} {sa : Addr} {xs : List V} (h : Scr K H Z sa xs) : SqL K H sa xs := h.imp (·.1) id
theorem Scr.fr {K : PySem.W.Frag} {H H' : Hp} {Z Z' : Addr → Prop} {sa : Addr} {xs : List V} (h : Scr K H Z sa xs) (f : Fr2 H H' Z Z') : Scr K H' Z' sa xs := by
  rcases h with ⟨h, hz⟩ | h
  · have nz : ∀ {o}, H sa = some o → ¬ Z' sa := fun {o} e z => (f.new sa z).elim hz fun z => by rw [e] at z; cases z
    rcases h with e | ⟨o, e⟩
    · exact .inl ⟨.inl (f.keep _ _ e hz), nz e⟩
    · exact .inl ⟨.inr ⟨o, f.keep _ _ e hz⟩, nz e⟩
  · exact .inr h
theorem Scr.grow {K : PySem.W.Frag} {H H' : Hp} {Z : Addr → Prop} {sa : Addr} {xs : List V} (h : Scr K H Z sa xs) (g : Grow H H') : Scr K H' Z sa xs := h.fr (Fr2.grow g)
theorem Scr.but {K : PySem.W.Frag} {H H' : Hp} {Z : Addr → Prop} {sa q : Addr} {xs : List V} {kvs : List (Key × V)} (h : Scr K H Z sa xs) (hq : H q = some (.dK kvs)) (g : ∀ b o, H b = some o → b ≠ q → H' b = some o) : Scr K H' Z sa xs := by
  rcases h with ⟨e | ⟨o, e⟩, hz⟩ | h
  · exact .inl ⟨.inl (g _ _ e (ne_of e hq (fun z => nomatch z))), hz⟩
  · exact .inl ⟨.inr ⟨o, g _ _ e (ne_of e hq (fun z => nomatch z))⟩, hz⟩
  · exact .inr h
theorem Scr.new {K : PySem.W.Frag} {H : Hp} {Z : Addr → Prop} {sa : Addr} {xs : List V} (h : SqL K H sa xs) (hz : ∀ b, Z b → H b = none) : Scr K H Z sa xs := by
  rcases h with h | h
  · refine .inl ⟨h, fun z => ?_⟩
    have := hz sa z
    rcases h with e | ⟨o, e⟩ <;> (rw [this] at e; cases e)
  · exact .inr h
def KyJ (J : Ix) : Prop := ∀ x ∈ J, x.1 ∈ owners12 ∧ x.2.length ≤ 400 ∧ ∀ r ∈ x.2, BxOk r ∧ r.1 ∈ keys4
inductive FiI (C : Addr) (K : PySem.W.Frag) (Hs : Hp) (sa p q : Addr) (a : IA) (xs : List V) (v4 : Option V) (n B : Nat) (σ : St) (H : Hp) : Prop
  | mk (M : Addr → Prop) (I J : Ix) (N : Nat) (kvs : List (Key × V)) (v3 v5 v6 : Option V) (h1 : σ = [some (.ref sa), some (.ref p), some (.ref q), v3, v4, v5, v6]) (h2 : Kept C H p q a M I J N kvs) (h4 : NmK kvs M) (h5 : Fr2 Hs H (mm a (ini a)) (mm a M)) (h6 : I.length ≤ n) (h7 : J.length ≤ n) (h8 : N ≤ B) (h9 : Scr K H (mm a M) sa xs) (h10 : KyJ J) : FiI C K Hs sa p q a xs v4 n B σ H
inductive Kp2 (C : Addr) (K : PySem.W.Frag) (Hs : Hp) (sa p q : Addr) (a : IA) (xs : List V) (M : Addr → Prop) (I J : Ix) (N : Nat) (o : Str) (m : Nat) (vs : List (Option V)) (σ : St) (H : Hp) : Prop
  | mk (kvs : List (Key × V)) (J' : Ix) (lx : Addr) (bs : List RwB) (h1 : σ = some (.ref sa) :: some (.ref p) :: some (.ref q) :: vs) (h2 : IxAt C H p a M I N) (h3 : H q = some (.dK kvs)) (h4 : Paired (KpR H) kvs J') (h5 : (J'.map (·.1)).Nodup) (h6 : ∀ o', look J' o' = if o' = o then some bs else look J o') (h7 : J'.length ≤ J.length + 1) (h8 : NmK kvs M) (h9 : valV kvs (Sum.inr o) = some (.ref lx)) (h10 : BxL H lx bs) (h11 : bs.length ≤ m) (h12 : ∀ x ∈ bs, BxOk x ∧ x.1 ∈ keys4) (h13 : Scr K H (mm a M) sa xs) (h14 : Fr2 Hs H (mm a (ini a)) (mm a M)) (h15 : ¬ M lx) : Kp2 C K Hs sa p q a xs M I J N o m vs σ H
theorem Kp2.done {C : Addr} {K : PySem.W.Frag} {Hs H H' : Hp} {sa p q : Addr} {a : IA} {xs : List V} {M M' : Addr → Prop} {I J J' : Ix} {N n B : Nat} {o : Str} {kvs : List (Key × V)} {bs : List RwB} {v3 v4 v5 v6 : Option V} (k2 : ∀ o, look I o = look J o) (hi : IxAt C H p a M I N) (h3 : H q = some (.dK kvs)) (h4 : Paired (KpR H) kvs J') (h5 : (J'.map (·.1)).Nodup) (h6 : ∀ o', look J' o' = if o' = o then some bs else look J o') (h7 : J'.length ≤ J.length + 1) (h8 : NmK kvs M) (h13 : Scr K H (mm a M) sa xs) (h14 : Fr2 Hs H (mm a (ini a)) (mm a M)) (hqp : q ≠ a.p) (li : I.length ≤ n) (lj : J.length ≤ n) (ln : n < 63) (hN : N + bs.length + 1 ≤ B) (f : Fr2 H H' (mm a M) (mm a M')) (i : IxAt C H' p a M' (dropI I o ++ [(o, bs)]) (N + bs.length + 1)) (hK : KyJ J) (hb : o ∈ owners12 ∧ bs.length ≤ 400 ∧ ∀ r ∈ bs, BxOk r ∧ r.1 ∈ keys4) :
    FiI C K Hs sa p q a xs v4 (n + 1) B [some (.ref sa), some (.ref p), some (.ref q), v3, v4, v5, v6] H' := by
  obtain ⟨d1, d2, d3, d4⟩ := tk_dk hi
  obtain ⟨kf, nf⟩ := kp_fr hi h4 h8 f
  have il : (dropI I o ++ [(o, bs)]).length ≤ n + 1 := by
    rw [List.length_append, List.length_singleton]
    have := Nat.le_trans (List.length_filter_le (fun x : Str × List RwB => decide (x.1 ≠ o)) I) li
    show (dropI I o).length + 1 ≤ n + 1
    unfold dropI
    omega
  refine ⟨M', _, J', _, kvs, v3, v5, v6, rfl, ⟨i, f.keep _ _ h3 (d3 q _ h3 hqp), kf, h5, fun o' => ?_, hqp, by omega, by omega⟩, nf, h14.trans f, il, by omega, hN, h13.fr f, fun x hx => ?_⟩
  · rw [h6, look_snoc _ _ _ _ (by rw [look_drop, if_pos rfl]), look_drop, k2]
    split <;> rfl
  · have e := h6 x.1
    rw [mem_look h5 hx] at e
    by_cases z : x.1 = o
    · rw [if_pos z] at e
      rw [z, Option.some.inj e]
      exact hb
    · rw [if_neg z] at e
      exact hK _ (look_mem e.symm)
theorem FiI.grow {C : Addr} {K : PySem.W.Frag} {Hs : Hp} {sa p q : Addr} {a : IA} {xs : List V} {v4 : Option V} {n B n' B' : Nat} {σ : St} {H H' : Hp} (h : FiI C K Hs sa p q a xs v4 n B σ H) (g : Grow H H') (hn : n ≤ n') (hB : B ≤ B') : FiI C K Hs sa p q a xs v4 n' B' σ H' := by
  obtain ⟨M, I, J, N, kvs, v3, v5, v6, h1, h2, h4, h5, h6, h7, h8, h9, h10⟩ := h
  exact ⟨M, I, J, N, kvs, v3, v5, v6, h1, h2.grow g, h4, h5.trans (Fr2.grow g), Nat.le_trans h6 hn, Nat.le_trans h7 hn, Nat.le_trans h8 hB, h9.grow g, h10⟩
theorem compB_bx {sub : List Nat} {te : TE} {σ : St} {H : Hp} {Q : VK} {n : Nat} (r : Nat → RwB) (hn : n ≤ 1000) (hte : ∀ (i : Nat) (H2 : Hp) (R : VK), i < n → (∀ t H', Grow H2 H' → H' t = some (.tup (rowB (r i))) → R (.ref t) H') → te (some (.int (0 + (i : Int))) :: subσ sub σ) H2 R)
    (hq : ∀ (D : Addr) (H' : Hp), H D = none → Grow H H' → BxL H' D ((List.range n).map r) → Q (.ref D) H') : CompB (Itr 0 n) sub (fun _ H Q => Q true H) te σ Q H := by
  intro D nD
  refine comp_range (lo := 0) (n := n) (sub := sub) (tt := fun _ H Q => Q true H) (te := te) (Q := Q) (σ := σ) (fun i ys H2 => ∃ ps : List Addr, ys = ps.map V.ref ∧ ps.length = i ∧ H2 D = some (.lst ys) ∧ RowB H2 ps ((List.range i).map r) ∧ Grow H H2) ⟨[], rfl, rfl, upd_same, .nil, (laid nD).1⟩ (fun i ys H2 hi hh => ?_) fun ys H2 hh => ?_
  · obtain ⟨ps, rfl, hl, e2, r2, g2⟩ := hh
    refine iteT (hte i _ _ hi fun t H' g et => ⟨g _ _ e2, by rw [List.length_map]; exact small1000 (by omega), ps ++ [t], by rw [List.map_append]; rfl, by rw [List.length_append, hl]; rfl, upd_same, ?_, fun b o e => by rw [upd_ne (ne_of_none e nD)]; exact g _ _ (g2 _ _ e)⟩)
    have k : ∀ b x, H' b = some (.tup x) → upd H' D (.lst (ps.map V.ref ++ [V.ref t])) b = some (.tup x) := fun b x e => by rw [upd_ne (ne_of e (g _ _ e2) (fun z => nomatch z))]; exact e
    rw [List.range_succ, List.map_append]
    exact paired_snoc (Paired.mapP r2 fun _ _ e => k _ _ (g _ _ e)) (k _ _ et)
  · obtain ⟨ps, rfl, hl, e2, r2, g2⟩ := hh
    exact hq D H2 nD g2 ⟨ps, e2, r2⟩
theorem rngT (L : Nat) : 4 ≤ (if (if (31 : Int) < (L : Int) then 31 else (L : Int)) > 4 then (if (31 : Int) < (L : Int) then 31 else (L : Int)) else 4) ∧ (if (if (31 : Int) < (L : Int) then 31 else (L : Int)) > 4 then (if (31 : Int) < (L : Int) then 31 else (L : Int)) else 4) ≤ ((31 : Nat) : Int) := by
  split <;> split <;> omega
theorem cut2 (ps : List Addr) : ∃ k, cutV (ps.map V.ref) none (some 2) = (ps.take k).map V.ref ∧ k ≤ 2 := by
  refine ⟨min 2 ps.length, ?_, Nat.min_le_left _ _⟩
  unfold cutV
  rw [show (some (2 : Int)) = some ((2 : Nat) : Int) from rfl, HT.sIx_nat, HT.sIx_none, List.drop_zero, Nat.sub_zero, List.length_map, List.map_take]
theorem paired_take {α β : Type} {P : α → β → Prop} {xs : List α} {ys : List β} (h : Paired P xs ys) : ∀ k, Paired P (xs.take k) (ys.take k) := by
  induction h with
  | nil => intro k; rw [List.take_nil, List.take_nil]; exact .nil
  | cons a t ih =>
    intro k
    cases k with
    | zero => exact .nil
    | succ k => exact .cons a (ih k)
theorem Kp2.lay {C : Addr} {K : PySem.W.Frag} {Hs H : Hp} {sa p q lx : Addr} {a : IA} {xs : List V} {M : Addr → Prop} {I J J1 : Ix} {N m : Nat} {o : Str} {kvs : List (Key × V)} {bs : List RwB} {vs : List (Option V)} (hi : IxAt C H p a M I N) (h3 : H q = some (.dK kvs)) (h4 : Paired (KpR H) kvs J1) (h5 : (J1.map (·.1)).Nodup) (h6 : ∀ o', o' ≠ o → look J1 o' = look J o') (h7 : (putJ J1 o bs).length ≤ J.length + 1) (h8 : NmK kvs M) (hb : BxL H lx bs) (nl : ¬ M lx) (hm : bs.length ≤ m) (ok : ∀ x ∈ bs, BxOk x ∧ x.1 ∈ keys4) (h13 : Scr K H (mm a M) sa xs) (h14 : Fr2 Hs H (mm a (ini a)) (mm a M)) (hqp : q ≠ a.p) (nq : Hs q = none) :
    Kp2 C K Hs sa p q a xs M I J N o m vs (some (.ref sa) :: some (.ref p) :: some (.ref q) :: vs) (upd H q (.dK (putK kvs (Sum.inr o) (.ref lx)))) := by
  have g : ∀ b o', H b = some o' → b ≠ q → upd H q (.dK (putK kvs (Sum.inr o) (.ref lx))) b = some o' := fun b o e hb => by rw [upd_ne hb]; exact e
  have nql : ∀ b x, H b = some (.lst x) → b ≠ q := fun b x e => ne_of e h3 (fun z => nomatch z)
  have nqt : ∀ b x, H b = some (.tup x) → b ≠ q := fun b x e => ne_of e h3 (fun z => nomatch z)
  refine ⟨_, putJ J1 o bs, lx, bs, rfl, hi.but h3 hqp g, upd_same, kp_keep (kp_put h4 hb) (fun b x e _ => g _ _ e (nql _ _ e)) (fun b x e => g _ _ e (nqt _ _ e)), putJ_nd h5, fun o' => ?_, h7, h8.put nl, by rw [valV_put, if_pos rfl], hb.keep (fun x e => g _ _ e (nql _ _ e)) (fun b x e => g _ _ e (nqt _ _ e)), hm, ok, h13.but h3 g, ⟨fun b o e hb => g _ _ (h14.keep b o e hb) (ne_of_none e nq), h14.new⟩, nl⟩
  rw [look_put]
  by_cases z : o' = o
  · rw [if_pos z, if_pos z]
  · rw [if_neg z, if_neg z, h6 o' z]
theorem rd_if2 {t : TT} {s1 s2 : TS} {D : Ends} {σ : St} {H : Hp} (P : Prop) (h : ∀ Q : Bool → Hp → Prop, (P → Q true H) → Q false H → t σ H Q) (h1 : P → s1 D σ H) (h2 : s2 D σ H) : tIfS t s1 s2 D σ H := rd_if (h _ (fun p => iteT (h1 p)) (iteF h2))
theorem bl2 {Q : Bool → Hp → Prop} {H : Hp} {c : Bool} (h1 : Q true H) (h2 : Q false H) : Q c H := by cases c; exact h2; exact h1
abbrev bxf (k : Nat) : RwB := (if k % 2 = 0 then Str.ofString "a" else Str.ofString "ab", (k : Int), if (k : Int) + (k : Int) % 7 < 399 then (k : Int) + (k : Int) % 7 else 399)
theorem keys_ix (i : Nat) : atI (keys4.map V.str) ((i : Int) % 2) = some (V.str (if i % 2 = 0 then Str.ofString "a" else Str.ofString "ab")) := by
  rcases Nat.mod_two_eq_zero_or_one i with h | h
  · rw [show (i : Int) % 2 = ((0 : Nat) : Int) by omega, if_pos h]; rfl
  · rw [show (i : Int) % 2 = ((1 : Nat) : Int) by omega, if_neg (by omega)]; rfl
def spFilled (K : PySem.W.Frag) (C : Addr) : Sp := fun vs H Q _ => ∃ (sa : Addr) (ns : List Int), vs = [.ref sa] ∧ SqL K H sa (ns.map V.int) ∧ ns.length ≤ 63 ∧ ∀ (t p q : Addr) (a : IA) (M : Addr → Prop) (I J : Ix) (N : Nat) (kvs : List (Key × V)) (H' : Hp), Grow H H' → H' t = some (.tup [.ref p, .ref q]) → Kept C H' p q a M I J N kvs → I.length < 40 → NmK kvs M → KyJ J → N ≤ 1000 → Q (.ref t) H'
theorem min399 (k : Fin 400) : ((k.val : Nat) : Int) ≤ (if ((k.val : Nat) : Int) + ((k.val : Nat) : Int) % 7 < 399 then ((k.val : Nat) : Int) + ((k.val : Nat) : Int) % 7 else 399) ∧ (if ((k.val : Nat) : Int) + ((k.val : Nat) : Int) % 7 < 399 then ((k.val : Nat) : Int) + ((k.val : Nat) : Int) % 7 else 399) < 400 := by
  have := k.isLt
  split <;> omega
theorem bx400 : ∀ k : Fin 400, BxOk (if k.val % 2 = 0 then Str.ofString "a" else Str.ofString "ab", ((k.val : Nat) : Int), (if ((k.val : Nat) : Int) + ((k.val : Nat) : Int) % 7 < 399 then ((k.val : Nat) : Int) + ((k.val : Nat) : Int) % 7 else 399)) := fun k => by
  refine ⟨?_, ?_, ?_, ?_, ?_⟩
  · show hasB (if k.val % 2 = 0 then Str.ofString "a" else Str.ofString "ab") letZ 8 = true
    split
    · decide +kernel
    · decide +kernel
  · show (if k.val % 2 = 0 then Str.ofString "a" else Str.ofString "ab" : Str).length < sizeLine
    split
    · decide +kernel
    · decide +kernel
  · show (0 : Int) ≤ (k.val : Int)
    omega
  · exact (min399 k).1
  · exact (min399 k).2
section
variable {P : Program} {w : World} {K : PySem.W.Frag} {mg : Str → Option Value} {base : Heap}
theorem scFilled : FnScope ["_law_script", "_law_index", "_law_kept", "_law_k", "_law_cell", "_law_digits", "_law_owner"] ["_law_script"] (defScope sFilled) := ⟨rfl, rfl, rfl, by decide +kernel, rfl, by decide +kernel, by decide +kernel⟩
theorem ok_filled {f f1 f2 f3 f4 f5 f6 f7 f8 f9 f10 f11 f20 C : Addr} {fd : FuncData} (F : Fun K "_law_told" "_law_told" sFilled f fd) (N : Free mg) {fd1 : FuncData} (CM : Cal P w K mg base "_law_mix" 1 ["_law_cell", "_law_k"] spMix f1 fd1) {fd2 : FuncData} (CO : Cal P w K mg base "_law_owners" 1 [] spOwnersL f2 fd2) {fd3 : FuncData} (CD : Cal P w K mg base "_law_wide" 1 ["_law_cell"] spWide f3 fd3) {fd4 : FuncData} (CN : Cal P w K mg base "_law_numbers" 2 ["_law_cell", "_law_digits", "_law_bases"] spNumbers f4 fd4) {fd5 : FuncData} (CX : Cal P w K mg base "_law_boxes" 3 ["_law_cell", "_law_digits"] spBoxesL f5 fd5) {fd6 : FuncData} (CR : Cal P w K mg base "_law_rest" 2 ["_law_cell", "_law_by"] spRest f6 fd6) {fd7 : FuncData} (CA : Cal P w K mg base "_law_cell_at" 1 ["_law_script", "_law_k"] (spCellAt K) f7 fd7) {fd8 : FuncData} (CS : Cal P w K mg base "_law_spoilt" 7 ["_law_index", "_law_cell"] (spSpoilt C) f8 fd8) {fd9 : FuncData} (CK : Cal P w K mg base "_law_keys" 1 [] spKeysL f9 fd9) {fd10 : FuncData} (MT : MC P w K mg base C "take" 4 ["self", "owner"] [] [] (spTake C K) f10 fd10) {fd11 : FuncData} (MP : MC P w K mg base C "put" 6 ["self", "owner", "boxes"] [] [] (spPut C K) f11 fd11) (MK : Mk K C f20) {fd20 : FuncData} (GI : FnOk P w K mg base CX0 1 f20 fd20 ["self"] (spInitI C)) (bI : Binds K fd20 ["self"] []) (mC : mg "Index" = some (.ref C)) : FnOk P w K mg base CX0 8 f fd ["_law_script"] (spFilled K C) := by
  refine F.ok (k := 7) scFilled (fun vs H Q E h => ?_) (fun cdv A outer s H vs Q E hr h => ?_)
  · obtain ⟨sa, ns, rfl, _⟩ := h
    rfl
  · obtain ⟨sa, ns, rfl, hS, h63, hq⟩ := h
    have hu := hu_of hr
    refine ⟨_, (pss_cons (ps_set (i := 1) scFilled.nd rfl (Or.inl rfl) (pe_make0 MK GI (hr.mono (by decide)) rfl mC bI .nil pass0))
      (pss_cons (ps_set (i := 2) scFilled.nd rfl (Or.inl rfl) pe_dnewK)
      (pss_cons (ps_for PassesOwn.never rfl (pi_range1 rfl N.range (pa_kons (pe_callB (call_max2 rfl) (by rfl) N.max PyProof.Rows.Boot.«max» (pa_kons pe_int (pa_kons (pe_callB (call_min2 rfl) (by rfl) N.min PyProof.Rows.Boot.«min» (pa_kons (pe_callB call_len_seq (by rfl) N.len PySem.boot_len (pa_kons (pv 0) pa_nil)) (pa_kons pe_int pa_nil))) pa_nil))) pa_nil)) (pg_name (i := 3) scFilled.nd rfl (Or.inl rfl))
      (pss_cons (ps_set (i := 4) scFilled.nd rfl (Or.inl rfl) (pe_call CA.ok (hr.mono (by decide)) rfl CA.nm CA.kp CA.bd .nil pass0 (pa_kons (pv 0) (pa_kons (pv 3) pa_nil))))
      (pss_cons (ps_set (i := 5) scFilled.nd rfl (Or.inl rfl) (pe_call CD.ok (hr.mono (by decide)) rfl CD.nm CD.kp CD.bd .nil pass0 (pa_kons (pv 4) pa_nil)))
      (pss_cons (ps_set (i := 6) scFilled.nd rfl (Or.inl rfl) (pe_ix ix_list (pe_call0 CO.ok (hr.mono (by decide)) rfl CO.nm CO.kp CO.bd .nil pass0) (pe_ix ix_list (pe_call CN.ok (hr.mono (by decide)) rfl CN.nm CN.kp CN.bd .nil pass0 (pa_kons (pv 4) (pa_kons (pv 5) (pa_kons (pe_lst (pa_kons pe_int pa_nil)) pa_nil)))) pe_int (fun _ _ => rfl)) (fun _ _ => rfl)))
      (pss_cons (ps_if (PW.pt (pw_and (pt_cmp (pc_din hu (pv 6) (pv 2))) (pw_and1 (pt_cmpR op_eq (pe_op op_mod (pe_call CM.ok (hr.mono (by decide)) rfl CM.nm CM.kp CM.bd .nil pass0 (pa_kons (pv 4) (pa_kons pe_int pa_nil))) pe_int) pe_int (nomark _))))) (pss_cons (ps_expr (pe_meth (pv 1) MT.cl MT.mt MT.ok (hr.mono (by decide)) MT.bd MT.dv pass0 (pa_kons (pv 6) pa_nil)))
      (pss_one (ps_expr (pe_dpop1 (pv 2) (pv 6) ⟨rfl, rfl, rfl, rfl⟩)))) (pss_cons (ps_dput hu (pv 2) (pv 6) (pe_call CX.ok (hr.mono (by decide)) rfl CX.nm CX.kp CX.bd .nil pass0 (pa_kons (pe_call CR.ok (hr.mono (by decide)) rfl CR.nm CR.kp CR.bd .nil pass0 (pa_kons (pv 4) (pa_kons pe_int pa_nil))) (pa_kons (pv 5) pa_nil))) rfl)
      (pss_cons (ps_if (pt_cmpR op_eq (pe_op op_mod (pe_call CM.ok (hr.mono (by decide)) rfl CM.nm CM.kp CM.bd .nil pass0 (pa_kons (pv 4) (pa_kons pe_int pa_nil))) pe_int) pe_int (nomark _)) (pss_one (ps_dput hu (pv 2) (pv 6) (pe_op op_cat (pe_dget hu (pv 2) (pv 6) (fun _ _ => rfl)) (pe_slice sl_list (pe_dget hu (pv 2) (pv 6) (fun _ _ => rfl)) po_none (po_some pe_int))) rfl)) pss_nil)
      (pss_one (ps_expr (pe_meth (pv 1) MP.cl MP.mt MP.ok (hr.mono (by decide)) MP.bd MP.dv pass0 (pa_kons (pv 6) (pa_kons (pe_callTy call_list_of (by rfl) N.list PyProof.Rows.Boot.«list» (pa_kons (pe_dget hu (pv 2) (pv 6) (fun _ _ => rfl)) pa_nil)) pa_nil))))))))
      (pss_one (ps_if (PW.pt (pw_and (pt_cmpR op_eq (pe_op op_mod (pe_call CM.ok (hr.mono (by decide)) rfl CM.nm CM.kp CM.bd .nil pass0 (pa_kons (pv 4) (pa_kons pe_int pa_nil))) pe_int) pe_int (nomark _)) (pw_and1 (pt_not (pt_val (pe_call CS.ok (hr.mono (by decide)) rfl CS.nm CS.kp CS.bd .nil pass0 (pa_kons (pv 1) (pa_kons (pv 4) pa_nil)))))))) (pss_one (ps_ret (pe_tup (pa_kons pe_non (pa_kons (pv 2) pa_nil))))) pss_nil)))))))
      (pss_cons (ps_if (pt_cmpR op_eq (pe_op op_mod (pe_call CM.ok (hr.mono (by decide)) rfl CM.nm CM.kp CM.bd .nil pass0 (pa_kons (pe_call CA.ok (hr.mono (by decide)) rfl CA.nm CA.kp CA.bd .nil pass0 (pa_kons (pv 0) (pa_kons pe_int pa_nil))) (pa_kons pe_int pa_nil))) pe_int) pe_int (nomark _)) (pss_cons (ps_dput hu (pv 2) pe_str (pe_of (pec_compN rfl (pi_range1 rfl N.range (pa_kons pe_int pa_nil)) rfl rfl (by show ∀ p ∈ _, CapN [] p; decide) (by decide) rfl (by show ([Str.ofString "_law_k"] : List Str).Nodup; decide) .nil (fun C fp s H => pts_nil) (fun C fp s H => (pe_tup (pa_kons (pe_ix (r := rIxL K) ix_list (pe_call0 CK.ok (hr.mono (by decide)) rfl CK.nm CK.kp CK.bd .nil pass0) (pe_op op_mod (pv 0) pe_int) (fun _ _ => rfl)) (pa_kons (pv 0) (pa_kons (pe_callB (call_min2 rfl) (by rfl) N.min PyProof.Rows.Boot.«min» (pa_kons pe_int (pa_kons (pe_op op_add (pv 0) (pe_op op_mod (pv 0) pe_int)) pa_nil))) pa_nil))))))) rfl)
      (pss_one (ps_expr (pe_meth (pv 1) MP.cl MP.mt MP.ok (hr.mono (by decide)) MP.bd MP.dv pass0 (pa_kons pe_str (pa_kons (pe_callTy call_list_of (by rfl) N.list PyProof.Rows.Boot.«list» (pa_kons (pe_dget hu (pv 2) pe_str (fun _ _ => rfl)) pa_nil)) pa_nil)))))) pss_nil)
      (pss_one (ps_ret (pe_tup (pa_kons (pv 1) (pa_kons (pv 2) pa_nil))))))))), ?_⟩
    refine rd_seq (rd_asg fun p dx np ndx hdx => ⟨p, dx, rfl, upd_same, fun a Hs fr1 kp1 hIs => ⟨rfl, ?_⟩⟩)
    have g1 : Grow H Hs := fun b o e => by
      have hb : b ≠ p := ne_of_none e np
      exact kp1 b o (by rw [upd_ne hb, upd_ne (ne_of_none e ndx)]; exact e) hb
    have fo : ∀ b, mm a (ini a) b → H b = none := fun b hb => by
      have hn := fr1 b hb
      by_cases z : b = p
      · rw [z]; exact np
      · by_cases z2 : b = dx
        · rw [z2]; exact ndx
        · rw [upd_ne z, upd_ne z2] at hn
          exact hn
    dsimp only [gName]
    have hS0 : Scr K Hs (mm a (ini a)) sa (ns.map V.int) := (Scr.new hS fo).grow g1
    refine rd_seq (rd_asg fun q nq => ?_)
    obtain ⟨g5, e5⟩ := laid (o := .dK []) nq
    dsimp only [gName]
    have hI5 := hIs.keep g5
    have hqp : q ≠ a.p := fun z => fresh_not hIs nq (.inl z)
    generalize upd Hs q _ = H5 at g5 e5 hI5 ⊢
    have hS5 := hS0.grow g5
    refine rd_seq ⟨_, rfl, sa, _, rfl, .inl hS5.sq, _, _, rfl, _, _, rfl, _, rfl, Int.le_trans (by decide) (rngT _).1, Int.lt_of_le_of_lt (rngT _).2 (by decide), for_range (fun i σ H' => ∃ v4, FiI C K Hs sa p q a (ns.map V.int) v4 i (9 * i) σ H')
      ⟨none, ini a, [], [], 0, [], none, none, none, rfl, ⟨hI5, e5, .nil, List.nodup_nil, fun _ => rfl, hqp, by decide, by decide⟩, (fun _ z => nomatch z), Fr2.grow g5, Nat.le_refl _, Nat.le_refl _, Nat.zero_le _, hS5, (fun _ z => nomatch z)⟩ (fun i σ H9 hi hh => ?_) fun σ H9 hh => ?_⟩
    · obtain ⟨v4, M, I, J, n, kvs, v3, v5, v6, rfl, h2, h4, h5, h6, h7, h8, h9, h10⟩ := hh
      have hiT : i < 31 := Nat.lt_of_lt_of_le hi (Int.toNat_le.mpr (rngT _).2)
      dsimp only [gName, List.set_cons_zero, List.set_cons_succ]
      refine rd_seq (rd_asg ⟨_, rfl, _, rfl, sa, ns, _, rfl, h9.sq, by omega, fun c => ?_⟩)
      dsimp only [gName, List.set_cons_zero, List.set_cons_succ]
      refine rd_seq (rd_asg ⟨_, rfl, c, rfl, fun d => ?_⟩)
      dsimp only [gName, List.set_cons_zero, List.set_cons_succ]
      refine rd_seq (rd_asg ⟨rfl, fun lo nlo => ?_⟩)
      obtain ⟨ga, ea⟩ := laid (o := .lst (owners12.map V.str)) nlo
      generalize upd H9 lo _ = Ha at ga ea ⊢
      refine ⟨_, rfl, _, rfl, by show 1 ≤ sizeLine; decide, fun l4 nl4 => ?_⟩
      obtain ⟨gb, eb⟩ := laid (o := .lst [V.int 12]) nl4
      generalize upd Ha l4 _ = Hb at gb eb ⊢
      refine ⟨c, d, l4, [12], rfl, eb, by decide, by decide, fun l5 Hc ns5 nl5 gc ec hlen hB => ?_⟩
      obtain ⟨od, rfl⟩ : ∃ od, ns5 = [od] := by
        match ns5, hlen with
        | [x], _ => exact ⟨x, rfl⟩
      have ho := hB 0 od 12 rfl rfl
      obtain ⟨ow, how, eow⟩ := at_nth (ys := owners12) ho.1 ho.2
      refine ⟨l5, _, 0, _, rfl, rfl, SqL.of ec, rfl, lo, _, _, _, rfl, rfl, SqL.of (gc _ _ (gb _ _ ea)), eow, ?_⟩
      dsimp only [gName, List.set_cons_zero, List.set_cons_succ]
      have g9c : Grow H9 Hc := ga.trans (gb.trans gc)
      have hk := h2.grow g9c
      have hf := h5.trans (Fr2.grow (M := mm a M) g9c)
      have hsc := h9.grow g9c
      obtain ⟨d1, d2, d3, d4⟩ := tk_dk hk.ix
      clear ga gb gc ea eb ec eow g9c h2 h5 h9
      refine rd_cut (FiI C K Hs sa p q a (ns.map V.int) (some (.int c)) (i + 1) (9 * (i + 1))) (fun R hR => ?_) (fun σ' H' hp => ?_)
      · dsimp only
        refine rd_if2 ((valV kvs (Sum.inr ow)).isSome = true) (fun Q hT hF => ⟨_, rfl, _, rfl, q, _, rfl, DGet.k (k := Sum.inr ow) hk.kq, _, rfl, ite2 (fun hin => ⟨_, rfl, c, 54, rfl, fun k _ _ => ⟨_, _, rfl, rfl, by decide, rfl, _, rfl, bl2 (hT hin) hF⟩⟩) fun _ => hF⟩) (fun hin => ?_) ?_
        · · obtain ⟨dxc, hoc⟩ := hk.ix.ob
            obtain ⟨v, hv⟩ := Option.isSome_iff_exists.mp hin
            refine rd_seq (rd_expr ⟨_, rfl, p, dxc, _, rfl, hoc, if_no a (by decide +kernel) (by decide +kernel) (by decide +kernel), _, rfl, ?_⟩)
            dsimp only [tNil, List.cons_append, List.nil_append, List.append_nil]
            refine tk_all hk.ix fun Hd Md fd3 hd => ?_
            have fd := fd3.fr
            try dsimp only
            obtain ⟨kd, nd⟩ := kp_fr hk.ix hk.kp h4 fd
            have eqd := fd.keep _ _ hk.kq (d3 q _ hk.kq hqp)
            have hfd := hf.trans fd
            have scd := hsc.fr fd
            refine rd_expr ⟨_, rfl, q, rfl, .inl ⟨_, .inl eqd⟩, _, rfl, kvs, Sum.inr ow, v, eqd, rfl, hv, ?_⟩
            have ilen : (dropI I ow).length ≤ i + 1 := Nat.le_succ_of_le (Nat.le_trans (List.length_filter_le _ _) h6)
            have jlen : (dropI J ow).length ≤ i + 1 := Nat.le_succ_of_le (Nat.le_trans (List.length_filter_le _ _) h7)
            have eqI : ∀ o, look (dropI I ow) o = look (dropI J ow) o := fun o => by rw [look_drop, look_drop, hk.eq]
            have g : ∀ b o, Hd b = some o → b ≠ q → upd Hd q (.dK (dropK kvs (Sum.inr ow))) b = some o := fun b o e hb => by rw [upd_ne hb]; exact e
            have nql : ∀ b x, Hd b = some (.lst x) → b ≠ q := fun b x e => ne_of e eqd (fun z => nomatch z)
            have nqt : ∀ b x, Hd b = some (.tup x) → b ≠ q := fun b x e => ne_of e eqd (fun z => nomatch z)
            refine hR _ _ ⟨Md, dropI I ow, dropI J ow, n, _, _, _, _, rfl, ⟨hd.but eqd hqp g, upd_same, kp_keep (kp_drop kd ow) (fun b x e _ => g _ _ e (nql _ _ e)) (fun b x e => g _ _ e (nqt _ _ e)), dropI_nd hk.nd, eqI, hqp, by omega, by omega⟩, nd.drop _, ⟨fun b o e hb => ?_, hfd.new⟩, ilen, jlen, by omega, scd.but eqd g, fun x hx => h10 x (dropI_mem hx).1⟩
            exact g _ _ (hfd.keep b o e hb) (ne_of_none e nq)
        · refine rd_seq ⟨_, rfl, c, 12, rfl, by decide, by decide, fun nr => ⟨_, rfl, nr, d, rfl, fun l9 Hd bs nl9 gd hb9 hb6 hok hky => ?_⟩⟩
          have hkd := hk.grow gd
          have ml9 : ¬ M l9 := fun z => fresh_not hk.ix nl9 (.inr z)
          have hfd := hf.trans (Fr2.grow (M := mm a M) gd)
          have hkl : kvs.length < sizeLine := by rw [show kvs.length = J.length from Paired.length hkd.kp, sizeLine_eq]; have := hkd.lj; omega
          refine ⟨_, rfl, _, rfl, q, _, rfl, DPut.k (k := Sum.inr ow) hkd.kq hkl, ?_⟩
          have jl := putJ_len J ow bs
          have k1 : Kp2 C K Hs sa p q a (ns.map V.int) M I J n ow 6 [some (.int (0 + (i : Int))), some (.int c), some (.bl d), some (.str ow)] _ _ := Kp2.lay hkd.ix hkd.kq hkd.kp hkd.nd (fun _ _ => rfl) jl h4 hb9 ml9 hb6 (fun x hx => ⟨hok x hx, hky x hx⟩) (hsc.grow gd) hfd hqp nq
          dsimp only [kV]
          generalize upd Hd q _ = He at k1 ⊢
          clear hkd hfd hkl jl hb9
          refine rd_cut (Kp2 C K Hs sa p q a (ns.map V.int) M I J n ow 8 [some (.int (0 + (i : Int))), some (.int c), some (.bl d), some (.str ow)]) (fun R2 hR2 => ?_) (fun σ' H' hp => ?_)
          · obtain ⟨kvs', J', lx, bs', -, x2, x3, x4, x5, x6, x7, x8, x9, ⟨ps, eps, rps⟩, x11, x12, x13, x14, x15⟩ := k1
            dsimp only
            refine rd_if ⟨_, rfl, c, 48, rfl, fun k _ _ => ⟨_, _, rfl, rfl, by decide, rfl, _, rfl, ite2 (fun _ => ?_) fun _ => rd_next (hR2 _ _ ⟨kvs', J', lx, bs', rfl, x2, x3, x4, x5, x6, x7, x8, x9, ⟨ps, eps, rps⟩, by omega, x12, x13, x14, x15⟩)⟩⟩
            have gt : DGet He q (.str ow) (some (.ref lx)) := by rw [← x9]; exact DGet.k (k := Sum.inr ow) x3
            refine ⟨_, rfl, _, rfl, q, _, rfl, gt, _, rfl, _, rfl, q, _, rfl, gt, _, rfl, lx, _, rfl, SqL.of eps, fun ls nls => ?_⟩
            obtain ⟨k2, ek2, hk2⟩ := cut2 ps
            rw [ek2]
            obtain ⟨g1, e1⟩ := laid (o := .lst ((ps.take k2).map V.ref)) nls
            generalize upd He ls _ = Hf at g1 e1 ⊢
            have hpl : ps.length = bs'.length := Paired.length rps
            have htl : (ps.take k2).length ≤ 2 := by rw [List.length_take]; omega
            refine ⟨lx, ls, _, _, rfl, rfl, g1 _ _ eps, e1, by rw [List.length_map, List.length_map]; exact Nat.le_of_lt (small1000 (by omega)), fun lc nlc => ?_⟩
            rw [← List.map_append]
            obtain ⟨g2, e2⟩ := laid (o := .lst ((ps ++ ps.take k2).map V.ref)) nlc
            generalize upd Hf lc _ = Hg at g2 e2 ⊢
            have g12 := g1.trans g2
            have y2 := x2.keep g12
            have y3 := g12 _ _ x3
            have y4 : Paired (KpR Hg) kvs' J' := kp_keep x4 (fun b x e _ => g12 _ _ e) fun b x e => g12 _ _ e
            have mlc : ¬ M lc := fun z => fresh_not (x2.keep g1) nlc (.inr z)
            have hany : (J'.any fun x => decide (x.1 = ow)) = true := by rw [any_look, x6, if_pos rfl]; rfl
            have jl : (putJ J' ow (bs' ++ bs'.take k2)).length ≤ J.length + 1 := by
              have := congrArg List.length (putJ_keys (bs := bs' ++ bs'.take k2) hany)
              rw [List.length_map, List.length_map] at this
              omega
            have hkl : kvs'.length < sizeLine := by rw [show kvs'.length = J'.length from Paired.length y4, sizeLine_eq]; have := hk.lj; omega
            refine ⟨_, rfl, _, rfl, q, _, rfl, DPut.k (k := Sum.inr ow) y3 hkl, hR2 _ _ (Kp2.lay y2 y3 y4 x5 (fun o' z => by rw [x6, if_neg z]) jl x8 ⟨_, e2, paired_app (Paired.mapP rps fun _ _ e => g12 _ _ e) (paired_take (Paired.mapP rps fun _ _ e => g12 _ _ e) k2)⟩ mlc (by rw [List.length_append, List.length_take]; omega) (fun x hx => ?_) (x13.grow g12) (x14.trans (Fr2.grow (M := mm a M) g12)) hqp nq)⟩
            rcases List.mem_append.mp hx with hx | hx
            · exact x12 x hx
            · exact x12 x (List.mem_of_mem_take hx)
          · obtain ⟨kvs', J', lx, bs', rfl, x2, x3, x4, x5, x6, x7, x8, x9, ⟨ps, eps, rps⟩, x11, x12, x13, x14, x15⟩ := hp
            obtain ⟨dxc, hoc⟩ := x2.ob
            have gt : DGet H' q (.str ow) (some (.ref lx)) := by rw [← x9]; exact DGet.k (k := Sum.inr ow) x3
            refine rd_expr ⟨_, rfl, p, dxc, _, rfl, hoc, if_no a (by decide +kernel) (by decide +kernel) (by decide +kernel), _, rfl, _, rfl, _, rfl, q, _, rfl, gt, lx, _, rfl, .inl (SqL.of eps), fun ln nln => ?_⟩
            obtain ⟨g1, e1⟩ := laid (o := .lst (ps.map V.ref)) nln
            have mln : ¬ M ln := fun z => fresh_not x2 nln (.inr z)
            generalize upd H' ln _ = Hf at g1 e1 ⊢
            have y4 : Paired (KpR Hf) kvs' J' := kp_keep x4 (fun b x e _ => g1 _ _ e) fun b x e => g1 _ _ e
            exact ⟨p, a, M, I, n, ow, ln, bs', rfl, x2.keep g1, own_good how, ⟨ps, e1, Paired.mapP rps fun _ _ e => g1 _ _ e⟩, mln, (fun x hx => (x12 x hx).1), by omega, by omega, fun Hh Mh fh3 ih => hR _ _ (Kp2.done hk.eq (x2.keep g1) (g1 _ _ x3) y4 x5 x6 x7 x8 (x13.grow g1) (x14.trans (Fr2.grow (M := mm a M) g1)) hqp h6 h7 (by omega) (by omega) fh3.fr ih h10 ⟨how, by omega, x12⟩)⟩
      · obtain ⟨M', I', J', n', kvs', w3, w5, w6, rfl, q2, q4, q5, q6, q7, q8, q9, q10⟩ := hp
        obtain ⟨dxc, hoc⟩ := q2.ix.ob
        refine rd_if ⟨_, rfl, c, 49, rfl, fun k _ _ => ⟨_, _, rfl, rfl, by decide, rfl, _, rfl, ite2 (fun _ => ?_) fun _ => iteF (rd_next ?_)⟩⟩
        · refine ⟨_, rfl, _, rfl, p, dxc, a, c, rfl, hoc, fun Hx gx => ⟨_, rfl, iteF (rd_next ?_)⟩⟩
          exact ⟨_, FiI.grow ⟨M', I', J', n', kvs', w3, w5, w6, rfl, q2, q4, q5, q6, q7, q8, q9, q10⟩ gx (Nat.le_refl _) (Nat.le_refl _)⟩
        · exact ⟨_, M', I', J', n', kvs', w3, w5, w6, rfl, q2, q4, q5, q6, q7, q8, q9, q10⟩
    · obtain ⟨v4, hh⟩ := hh
      have hh := hh.grow (H' := H9) (fun _ _ e => e) (Int.toNat_le.mpr (rngT _).2) (Nat.mul_le_mul_left 9 (Int.toNat_le.mpr (rngT _).2))
      dsimp only
      refine rd_cut (FiI C K Hs sa p q a (ns.map V.int) v4 (31 + 1) (9 * 31 + 401)) (fun R hR => ?_) (fun σ' H' hp => ?_)
      · obtain ⟨M, I, J, n, kvs, v3, v5, v6, rfl, h2, h4, h5, h6, h7, h8, h9, h10⟩ := hh
        refine rd_if ⟨_, rfl, sa, ns, 0, rfl, h9.sq, by decide, fun c0 => ⟨c0, 50, rfl, fun k _ _ => ⟨_, _, rfl, rfl, by decide, rfl, _, rfl, ite2 (fun _ => ?_) fun _ => rd_next (hR _ _ ⟨M, I, J, n, kvs, v3, v5, v6, rfl, h2, h4, h5, by omega, by omega, by omega, h9, h10⟩)⟩⟩⟩
        refine rd_seq (rd_comp ⟨400, rfl, by decide, by decide, compB_bx (n := 400) bxf (by decide) (fun i H2 R3 hi hR3 => ?_) fun D Hd nD gd hb => ?_⟩)
        · rw [Int.zero_add]
          refine ⟨rfl, fun lk nlk => ⟨_, rfl, _, _, rfl, rfl, by decide, lk, _, _, _, rfl, rfl, SqL.of upd_same, keys_ix i, _, rfl, _, rfl, _, rfl, _, _, rfl, rfl, by decide, _, _, rfl, rfl, _, _, rfl, by show 3 ≤ sizeLine; decide, fun t nt => ?_⟩⟩
          obtain ⟨g1, e1⟩ := laid (o := .lst (keys4.map V.str)) nlk
          obtain ⟨g2, e2⟩ := laid (o := .tup (rowB (bxf i))) nt
          exact hR3 t _ (g1.trans g2) e2
        · have hkd := h2.grow gd
          have mD : ¬ M D := fun z => fresh_not h2.ix nD (.inr z)
          have hfd := h5.trans (Fr2.grow (M := mm a M) gd)
          have hkl : kvs.length < sizeLine := by rw [show kvs.length = J.length from Paired.length hkd.kp, sizeLine_eq]; have := hkd.lj; omega
          refine ⟨_, rfl, q, _, rfl, DPut.k (k := Sum.inr (Str.ofString "b")) hkd.kq hkl, ?_⟩
          have hbl : ((List.range 400).map bxf).length = 400 := by rw [List.length_map, List.length_range]
          have hok : ∀ x ∈ (List.range 400).map bxf, BxOk x ∧ x.1 ∈ keys4 := fun x hx => by
            obtain ⟨k, hk, rfl⟩ := List.mem_map.mp hx
            exact ⟨bx400 ⟨k, List.mem_range.mp hk⟩, by show (if _ then _ else _) ∈ keys4; split <;> decide⟩
          generalize (List.range 400).map bxf = bs at hb hbl hok
          have jl := putJ_len J (Str.ofString "b") bs
          have k1 : Kp2 C K Hs sa p q a (ns.map V.int) M I J n (Str.ofString "b") 400 [v3, v4, v5, v6] _ _ := Kp2.lay hkd.ix hkd.kq hkd.kp hkd.nd (fun _ _ => rfl) jl h4 hb mD (Nat.le_of_eq hbl) hok (h9.grow gd) hfd hqp nq
          dsimp only [kV]
          generalize upd Hd q _ = He at k1 ⊢
          clear hkd hfd hkl jl hb
          obtain ⟨kvs', J', lx, bs', -, x2, x3, x4, x5, x6, x7, x8, x9, ⟨ps, eps, rps⟩, x11, x12, x13, x14, x15⟩ := k1
          obtain ⟨dxc, hoc⟩ := x2.ob
          have gt : DGet He q (.str (Str.ofString "b")) (some (.ref lx)) := by rw [← x9]; exact DGet.k (k := Sum.inr (Str.ofString "b")) x3
          refine rd_expr ⟨_, rfl, p, dxc, _, rfl, hoc, if_no a (by decide +kernel) (by decide +kernel) (by decide +kernel), _, rfl, q, _, rfl, gt, lx, _, rfl, .inl (SqL.of eps), fun ln nln => ?_⟩
          obtain ⟨g1, e1⟩ := laid (o := .lst (ps.map V.ref)) nln
          have mln : ¬ M ln := fun z => fresh_not x2 nln (.inr z)
          generalize upd He ln _ = Hf at g1 e1 ⊢
          have y4 : Paired (KpR Hf) kvs' J' := kp_keep x4 (fun b x e _ => g1 _ _ e) fun b x e => g1 _ _ e
          exact ⟨p, a, M, I, n, Str.ofString "b", ln, bs', rfl, x2.keep g1, own_good (by decide +kernel), ⟨ps, e1, Paired.mapP rps fun _ _ e => g1 _ _ e⟩, mln, (fun x hx => (x12 x hx).1), by omega, by omega, fun Hh Mh fh3 ih => hR _ _ (Kp2.done h2.eq (x2.keep g1) (g1 _ _ x3) y4 x5 x6 x7 x8 (x13.grow g1) (x14.trans (Fr2.grow (M := mm a M) g1)) hqp h6 h7 (by omega) (by omega) fh3.fr ih h10 ⟨by decide +kernel, by omega, x12⟩)⟩
      · obtain ⟨M', I', J', n', kvs', w3, w5, w6, rfl, q2, q4, q5, q6, q7, q8, q9, q10⟩ := hp
        refine rd_ret ⟨_, rfl, _, rfl, by show 2 ≤ sizeLine; decide, fun t nt => ?_⟩
        obtain ⟨gt, et⟩ := laid (o := .tup [V.ref p, V.ref q]) nt
        generalize upd H' t _ = Ht at gt et ⊢
        exact hq t p q a M' I' J' n' kvs' Ht (fun b o e => gt _ _ (q5.keep b o (g1 _ _ e) fun z => by rw [fo b z] at e; cases e)) et (q2.grow gt) (by omega) q4 q10 (by omega)
end
end Mine
namespace L2
open PySem PySem.Spec PyProof.Rows
theorem Lev.pos {j : Nat} {k : Int} (h : Kn.Lev j k) : 1 ≤ k ∧ k < 512 := by
  obtain ⟨_, m, e, hl⟩ := h
  have p : 1 ≤ (2 * m + 1) * 2 ^ j := Nat.one_le_iff_ne_zero.mpr (Nat.mul_ne_zero (by omega) (Nat.pos_iff_ne_zero.mp (Nat.two_pow_pos j)))
  omega
theorem Lev.ex : ∀ (b : Nat) (k : Nat), k < 2 ^ b → 1 ≤ k → k < 512 → ∃ j, Kn.Lev j (k : Int)
  | 0, k, h, h1, _ => by simp at h; omega
  | b + 1, k, h, h1, h2 => by
    rcases Nat.mod_two_eq_zero_or_one k with e | e
    · obtain ⟨j, hj, m, em, hm⟩ := Lev.ex b (k / 2) (by rw [Nat.pow_succ] at h; omega) (by omega) (by omega)
      have em : k / 2 = (2 * m + 1) * 2 ^ j := by exact_mod_cast em
      have ek : k = (2 * m + 1) * 2 ^ (j + 1) := by rw [Nat.pow_succ, ← Nat.mul_assoc, ← em]; omega
      refine ⟨j + 1, ?_, m, by rw [← ek], by rw [← ek]; exact h2⟩
      rcases Nat.lt_or_ge j 8 with z | z
      · exact z
      · exfalso
        have : 2 ^ 9 ≤ 2 ^ (j + 1) := Nat.pow_le_pow_right (by decide) (by omega)
        have : 1 * 2 ^ (j + 1) ≤ (2 * m + 1) * 2 ^ (j + 1) := Nat.mul_le_mul_right _ (by omega)
        omega
    · exact ⟨0, by omega, k / 2, by simp; omega, by simp; omega⟩
theorem Lev.exI {k : Int} (h1 : 1 ≤ k) (h2 : k < 512) : ∃ j, Kn.Lev j k := by
  obtain ⟨n, rfl⟩ : ∃ n : Nat, k = (n : Int) := ⟨k.toNat, by omega⟩
  exact Lev.ex 9 n (by omega) (by omega) (by omega)
theorem Lev.apart {i j : Nat} {m n : Int} (hm : Kn.Lev i m) (hn : Kn.Lev j n) (h1 : n - ((2 ^ j : Nat) : Int) < m) (h2 : m < n + ((2 ^ j : Nat) : Int)) (hne : m ≠ n) : i < j := by
  rcases Nat.lt_or_ge i j with z | z
  · exact z
  · exfalso
    obtain ⟨_, a, ea, _⟩ := hm
    obtain ⟨_, c, ec, _⟩ := hn
    obtain ⟨d, rfl⟩ : ∃ d, i = j + d := ⟨i - j, by omega⟩
    have ea : m = ((2 * a + 1) * 2 ^ d : Nat) * ((2 ^ j : Nat) : Int) := by rw [ea, Nat.pow_add, ← Int.natCast_mul]; congr 1; rw [Nat.mul_assoc, Nat.mul_comm (2 ^ d)]
    have ec : n = ((2 * c + 1 : Nat) : Int) * ((2 ^ j : Nat) : Int) := by rw [ec, Int.natCast_mul]
    have p : (0 : Int) < ((2 ^ j : Nat) : Int) := by have := Nat.two_pow_pos j; omega
    generalize ((2 ^ j : Nat) : Int) = P at *
    generalize (((2 * a + 1) * 2 ^ d : Nat) : Int) = x at *
    generalize ((2 * c + 1 : Nat) : Int) = y at *
    have hxy : x ≠ y := fun z => hne (by rw [ea, ec, z])
    rcases Int.lt_or_gt_of_ne hxy with z | z
    · have : (x + 1) * P ≤ y * P := Int.mul_le_mul_of_nonneg_right (by omega) (by omega)
      rw [Int.add_mul] at this
      omega
    · have : (y + 1) * P ≤ x * P := Int.mul_le_mul_of_nonneg_right (by omega) (by omega)
      rw [Int.add_mul] at this
      omega
theorem Lev.uniq {i j : Nat} {n : Int} (hi : Kn.Lev i n) (hj : Kn.Lev j n) : i = j := by
  have e := hi.low.symm.trans hj.low
  have e : 2 ^ i = 2 ^ j := by exact_mod_cast e
  exact (Nat.pow_right_inj (by decide)).mp e
theorem wayL_knot {f l : Int} : ∀ (j : Nat) (k : Int), Kn.Lev j k → Kn.Under j k f l → ∃ i n, (Kn.wayL j k f l).getLast? = some n ∧ Kn.Lev i n ∧ f + 1 ≤ n ∧ n ≤ l + 1 ∧ Kn.Under i n f l
  | 0, k, L, U => ⟨0, k, rfl, L, (Kn.Under.zero U).1, (Kn.Under.zero U).2, U⟩
  | j + 1, k, L, U => by
    unfold Kn.wayL
    by_cases c1 : f + 1 ≤ k ∧ k ≤ l + 1
    · rw [if_pos c1]
      exact ⟨j + 1, k, rfl, L, c1.1, c1.2, U⟩
    · rw [if_neg c1]
      by_cases c2 : l + 1 < k
      · rw [if_pos c2]
        obtain ⟨i, n, e, r⟩ := wayL_knot j _ L.left (U.left c2)
        refine ⟨i, n, ?_, r⟩
        rw [List.getLast?_cons, e]
        rfl
      · rw [if_neg c2]
        have c3 : k < f + 1 := by have := U.2.2; omega
        obtain ⟨i, n, e, r⟩ := wayL_knot j _ L.right (U.right c3)
        refine ⟨i, n, ?_, r⟩
        rw [List.getLast?_cons, e]
        rfl
theorem knot_lev {f l : Int} (h0 : 0 ≤ f) (h1 : f ≤ l) (h2 : l < 400) : ∃ j, Kn.Lev j (knot f l) ∧ f + 1 ≤ knot f l ∧ knot f l ≤ l + 1 ∧ Kn.Under j (knot f l) f l := by
  obtain ⟨i, n, e, r⟩ := wayL_knot (f := f) (l := l) 8 256 Kn.Lev.top (Kn.Under.top h0 h1 h2)
  have : knot f l = n := by unfold knot Kn.way; rw [e]; rfl
  rw [this]
  exact ⟨i, r⟩
theorem knot_most {f l m : Int} {i j : Nat} (h0 : 0 ≤ f) (h1 : f ≤ l) (h2 : l < 400) (hn : Kn.Lev j (knot f l)) (hu : Kn.Under j (knot f l) f l) (hm : Kn.Lev i m) (m1 : f + 1 ≤ m) (m2 : m ≤ l + 1) (hne : m ≠ knot f l) : i < j :=
  Lev.apart hm hn (by have := hu.1; omega) (by have := hu.2.1; omega) hne
def par (j : Nat) (n : Int) : Int := if (n - ((2 ^ j : Nat) : Int)) / ((2 ^ j : Nat) : Int) / 2 % 2 = 0 then n + ((2 ^ j : Nat) : Int) else n - ((2 ^ j : Nat) : Int)
theorem par_of {j m : Nat} {P : Int} (hp : 0 < P) : (((2 * m + 1 : Nat) : Int) * P - P) / P / 2 = (m : Int) := by
  rw [show ((2 * m + 1 : Nat) : Int) * P - P = ((2 * m : Nat) : Int) * P by rw [show ((2 * m + 1 : Nat) : Int) = ((2 * m : Nat) : Int) + 1 by omega, Int.add_mul]; omega, Int.mul_ediv_cancel _ (by omega)]
  omega
theorem par_left {j : Nat} {k : Int} (L : Kn.Lev (j + 1) k) : par j (k - ((2 ^ j : Nat) : Int)) = k := by
  obtain ⟨_, m, e, _⟩ := L
  have p : (0 : Int) < ((2 ^ j : Nat) : Int) := by have := Nat.two_pow_pos j; omega
  have e2 : k - ((2 ^ j : Nat) : Int) = ((2 * (2 * m) + 1 : Nat) : Int) * ((2 ^ j : Nat) : Int) := by
    rw [e, Nat.pow_succ, ← Int.natCast_mul]
    have : (2 * m + 1) * (2 ^ j * 2) = (2 * (2 * m) + 1) * 2 ^ j + 2 ^ j := by rw [← Nat.succ_mul, Nat.mul_comm (2 ^ j) 2, ← Nat.mul_assoc]; congr 1; omega
    rw [this]
    omega
  unfold par
  rw [e2, par_of (j := j) p, if_pos (by omega), ← e2]
  omega
theorem par_right {j : Nat} {k : Int} (L : Kn.Lev (j + 1) k) : par j (k + ((2 ^ j : Nat) : Int)) = k := by
  obtain ⟨_, m, e, _⟩ := L
  have p : (0 : Int) < ((2 ^ j : Nat) : Int) := by have := Nat.two_pow_pos j; omega
  have e2 : k + ((2 ^ j : Nat) : Int) = ((2 * (2 * m + 1) + 1 : Nat) : Int) * ((2 ^ j : Nat) : Int) := by
    rw [e, Nat.pow_succ, ← Int.natCast_mul]
    have : (2 * m + 1) * (2 ^ j * 2) + 2 ^ j = (2 * (2 * m + 1) + 1) * 2 ^ j := by rw [Nat.mul_comm (2 ^ j) 2, ← Nat.mul_assoc, ← Nat.succ_mul]; congr 1; omega
    omega
  unfold par
  rw [e2, par_of (j := j) p, if_neg (by omega), ← e2]
  omega
inductive Road : Nat → Int → List Int → Prop
  | top : Road 8 256 [256]
  | up {j : Nat} {n : Int} {r : List Int} (L : Kn.Lev j n) (h : j < 8) (t : Road (j + 1) (par j n) r) : Road j n (n :: r)
theorem Road.lev {j : Nat} {n : Int} {r : List Int} (h : Road j n r) : Kn.Lev j n := by
  cases h with
  | top => exact Kn.Lev.top
  | up L _ _ => exact L
theorem Road.len {j : Nat} {n : Int} {r : List Int} (h : Road j n r) : r.length + j = 9 := by
  induction h with
  | top => rfl
  | up _ _ _ ih => rw [List.length_cons]; omega
theorem wayL_road {f l : Int} : ∀ (j : Nat) (k : Int) (r : List Int), Road j k r → Kn.Under j k f l → ∃ i n r', (Kn.wayL j k f l).getLast? = some n ∧ Road i n r' ∧ ∀ x, x ∈ r' ↔ x ∈ Kn.wayL j k f l ∨ x ∈ r
  | 0, k, r, R, U => ⟨0, k, r, rfl, R, fun x => ⟨.inr, fun h => h.elim (fun h => by
      have : x = k := by simpa [Kn.wayL] using h
      cases R with
      | up _ _ _ => rw [this]; exact List.mem_cons_self) id⟩⟩
  | j + 1, k, r, R, U => by
    have L := R.lev
    have hk : k ∈ r := by cases R <;> exact List.mem_cons_self
    have h8 : j < 8 := by have := L.1; omega
    unfold Kn.wayL
    by_cases c1 : f + 1 ≤ k ∧ k ≤ l + 1
    · rw [if_pos c1]
      exact ⟨j + 1, k, r, rfl, R, fun x => ⟨.inr, fun h => h.elim (fun h => by rw [List.mem_singleton.mp h]; exact hk) id⟩⟩
    · rw [if_neg c1]
      by_cases c2 : l + 1 < k
      · rw [if_pos c2]
        obtain ⟨i, n, r', e, R', hx⟩ := wayL_road j _ _ (Road.up L.left h8 (by rw [par_left L]; exact R)) (U.left c2)
        refine ⟨i, n, r', by rw [List.getLast?_cons, e]; rfl, R', fun x => ?_⟩
        rw [hx, List.mem_cons, List.mem_cons]
        have hm : k - ((2 ^ j : Nat) : Int) ∈ Kn.wayL j (k - ((2 ^ j : Nat) : Int)) f l := by unfold Kn.wayL; cases j <;> simp <;> (try split) <;> (try split) <;> simp
        constructor
        · rintro (h | h | h)
          · exact .inl (.inr h)
          · rw [h]; exact .inl (.inr hm)
          · exact .inr h
        · rintro ((h | h) | h)
          · rw [h]; exact .inr (.inr hk)
          · exact .inl h
          · exact .inr (.inr h)
      · rw [if_neg c2]
        have c3 : k < f + 1 := by have := U.2.2; omega
        obtain ⟨i, n, r', e, R', hx⟩ := wayL_road j _ _ (Road.up L.right h8 (by rw [par_right L]; exact R)) (U.right c3)
        refine ⟨i, n, r', by rw [List.getLast?_cons, e]; rfl, R', fun x => ?_⟩
        rw [hx, List.mem_cons, List.mem_cons]
        have hm : k + ((2 ^ j : Nat) : Int) ∈ Kn.wayL j (k + ((2 ^ j : Nat) : Int)) f l := by unfold Kn.wayL; cases j <;> simp <;> (try split) <;> (try split) <;> simp
        constructor
        · rintro (h | h | h)
          · exact .inl (.inr h)
          · rw [h]; exact .inl (.inr hm)
          · exact .inr h
        · rintro ((h | h) | h)
          · rw [h]; exact .inr (.inr hk)
          · exact .inl h
          · exact .inr (.inr h)
theorem knot_road {f l : Int} (h0 : 0 ≤ f) (h1 : f ≤ l) (h2 : l < 400) : ∃ i r, Road i (knot f l) r ∧ ∀ x, x ∈ r ↔ x ∈ Kn.way f l := by
  obtain ⟨i, n, r', e, R, hx⟩ := wayL_road (f := f) (l := l) 8 256 _ .top (Kn.Under.top h0 h1 h2)
  have : knot f l = n := by unfold knot Kn.way; rw [e]; rfl
  rw [this]
  refine ⟨i, r', R, fun x => ?_⟩
  rw [hx]
  constructor
  · rintro (h | h)
    · exact h
    · rw [List.mem_singleton.mp h]
      unfold Kn.way Kn.wayL
      split <;> (try split) <;> simp
  · exact .inl
theorem pow_pos (i : Nat) : (1 : Int) ≤ ((2 ^ i : Nat) : Int) := by have := Nat.two_pow_pos i; omega
theorem lookL_mem {T : Int → Bool} {f l n : Int} : ∀ (j : Nat) (k : Int), Kn.Lev j k → n ∈ lookL T f l j k → ∃ i, Kn.Lev i n ∧ T n = true ∧ k - ((2 ^ j : Nat) : Int) ≤ n - ((2 ^ i : Nat) : Int) ∧ n + ((2 ^ i : Nat) : Int) ≤ k + ((2 ^ j : Nat) : Int) ∧ (k - ((2 ^ j : Nat) : Int) < l + 1 ∧ f + 1 < k + ((2 ^ j : Nat) : Int) → n - ((2 ^ i : Nat) : Int) < l + 1 ∧ f + 1 < n + ((2 ^ i : Nat) : Int))
  | 0, k, L, h => by
    rw [lookL] at h
    split at h
    · rename_i ht
      rw [List.mem_singleton.mp h]
      exact ⟨0, L, ht, Int.le_refl _, Int.le_refl _, id⟩
    · cases h
  | j + 1, k, L, h => by
    rw [lookL] at h
    have e2 : ((2 ^ (j + 1) : Nat) : Int) = ((2 ^ j : Nat) : Int) + ((2 ^ j : Nat) : Int) := by rw [Nat.pow_succ]; omega
    split at h
    · rename_i ht
      rcases List.mem_cons.mp h with rfl | h
      · exact ⟨j + 1, L, ht, Int.le_refl _, Int.le_refl _, id⟩
      · rcases List.mem_append.mp h with h | h
        · split at h
          · rename_i c
            have hp := pow_pos j
            obtain ⟨i, a1, a2, a3, a4, a5⟩ := lookL_mem j _ L.right h
            exact ⟨i, a1, a2, by omega, by omega, fun z => a5 (by omega)⟩
          · cases h
        · split at h
          · rename_i c
            have hp := pow_pos j
            obtain ⟨i, a1, a2, a3, a4, a5⟩ := lookL_mem j _ L.left h
            exact ⟨i, a1, a2, by omega, by omega, fun z => a5 (by omega)⟩
          · cases h
    · cases h
theorem lookL_nd {T : Int → Bool} {f l : Int} : ∀ (j : Nat) (k : Int), Kn.Lev j k → (lookL T f l j k).Nodup
  | 0, k, L => by
    rw [lookL]
    split
    · simp
    · exact List.nodup_nil
  | j + 1, k, L => by
    rw [lookL]
    split
    · have hR : ∀ n ∈ (if k < l + 1 then lookL T f l j (k + ((2 ^ j : Nat) : Int)) else []), k < n := fun n hn => by
        split at hn
        · obtain ⟨i, _, _, a3, _, _⟩ := lookL_mem j _ L.right hn
          have := pow_pos i
          omega
        · cases hn
      have hL : ∀ n ∈ (if f + 1 < k then lookL T f l j (k - ((2 ^ j : Nat) : Int)) else []), n < k := fun n hn => by
        split at hn
        · obtain ⟨i, _, _, _, a4, _⟩ := lookL_mem j _ L.left hn
          have := pow_pos i
          omega
        · cases hn
      refine List.nodup_cons.mpr ⟨fun h => ?_, List.nodup_append.mpr ⟨?_, ?_, fun a ha b hb e => ?_⟩⟩
      · rcases List.mem_append.mp h with h | h
        · have := hR _ h; omega
        · have := hL _ h; omega
      · split
        · exact lookL_nd j _ L.right
        · exact List.nodup_nil
      · split
        · exact lookL_nd j _ L.left
        · exact List.nodup_nil
      · have := hR _ ha; have := hL _ hb; omega
    · exact List.nodup_nil
theorem wayL_under {f l n : Int} : ∀ (j : Nat) (k : Int), Kn.Lev j k → Kn.Under j k f l → n ∈ Kn.wayL j k f l → ∃ i, Kn.Lev i n ∧ Kn.Under i n f l
  | 0, k, L, U, h => by
    rw [show n = k by simpa [Kn.wayL] using h]
    exact ⟨0, L, U⟩
  | j + 1, k, L, U, h => by
    unfold Kn.wayL at h
    by_cases c1 : f + 1 ≤ k ∧ k ≤ l + 1
    · rw [if_pos c1] at h
      rw [List.mem_singleton.mp h]
      exact ⟨_, L, U⟩
    · rw [if_neg c1] at h
      by_cases c2 : l + 1 < k
      · rw [if_pos c2] at h
        rcases List.mem_cons.mp h with rfl | h
        · exact ⟨_, L, U⟩
        · exact wayL_under j _ L.left (U.left c2) h
      · rw [if_neg c2] at h
        have c3 : k < f + 1 := by have := U.2.2; omega
        rcases List.mem_cons.mp h with rfl | h
        · exact ⟨_, L, U⟩
        · exact wayL_under j _ L.right (U.right c3) h
theorem on_way {d n : Int} {i : Nat} (hn : Kn.Lev i n) (h1 : n - ((2 ^ i : Nat) : Int) < d + 1) (h2 : d + 1 < n + ((2 ^ i : Nat) : Int)) : ∀ (j : Nat) (k : Int), Kn.Lev j k → k - ((2 ^ j : Nat) : Int) ≤ n - ((2 ^ i : Nat) : Int) → n + ((2 ^ i : Nat) : Int) ≤ k + ((2 ^ j : Nat) : Int) → n ∈ Kn.wayL j k d d
  | 0, k, L, a, c => by
    have := pow_pos i
    have : ((2 ^ 0 : Nat) : Int) = 1 := rfl
    have : n = k := by omega
    rw [this]
    exact List.mem_singleton.mpr rfl
  | j + 1, k, L, a, c => by
    have e2 : ((2 ^ (j + 1) : Nat) : Int) = ((2 ^ j : Nat) : Int) + ((2 ^ j : Nat) : Int) := by rw [Nat.pow_succ]; omega
    unfold Kn.wayL
    by_cases hk : n = k
    · rw [hk]
      split
      · exact List.mem_singleton.mpr rfl
      · split <;> exact List.mem_cons_self
    · have hno : k ≤ n - ((2 ^ i : Nat) : Int) ∨ n + ((2 ^ i : Nat) : Int) ≤ k := by
        rcases Int.lt_or_le (n - ((2 ^ i : Nat) : Int)) k with z | z
        · rcases Int.lt_or_le k (n + ((2 ^ i : Nat) : Int)) with z2 | z2
          · exfalso
            have hlt := Lev.apart L hn z z2 (Ne.symm hk)
            have : 2 ^ (j + 1) < 2 ^ i := Nat.pow_lt_pow_right (by decide) hlt
            omega
          · exact .inr z2
        · exact .inl z
      rw [if_neg (by omega)]
      rcases hno with z | z
      · rw [if_neg (by omega)]
        exact List.mem_cons_of_mem _ (on_way hn h1 h2 j _ L.right (by omega) (by omega))
      · rw [if_pos (by omega)]
        exact List.mem_cons_of_mem _ (on_way hn h1 h2 j _ L.left (by omega) (by omega))
theorem looked_most {L : List OB} {k : Str} {f l : Int} (h0 : 0 ≤ f) (h1 : f ≤ l) (h2 : l < 400) (ok : ∀ x ∈ L, DayOk x.2) : (lookL (fun n => decide (0 < wt L k n)) f l 8 256).length ≤ 18 + 9 * (L.filter fun x => decide (x.2.1 = k ∧ x.2.2.1 ≤ l ∧ f ≤ x.2.2.2)).length := by
  have hsub : ∀ n ∈ lookL (fun n => decide (0 < wt L k n)) f l 8 256, n ∈ (Kn.way f f ++ Kn.way l l) ++ (L.filter fun x => decide (x.2.1 = k ∧ x.2.2.1 ≤ l ∧ f ≤ x.2.2.2)).flatMap fun x => Kn.way x.2.2.1 x.2.2.2 := fun n hn => by
    have h8 : ((2 ^ 8 : Nat) : Int) = 256 := rfl
    obtain ⟨i, a1, a2, a3, a4, a5⟩ := lookL_mem 8 256 Kn.Lev.top hn
    obtain ⟨b1, b2⟩ := a5 (by omega)
    by_cases c1 : n - ((2 ^ i : Nat) : Int) < f + 1
    · exact List.mem_append_left _ (List.mem_append_left _ (on_way a1 c1 b2 8 256 Kn.Lev.top a3 a4))
    · by_cases c2 : l + 1 < n + ((2 ^ i : Nat) : Int)
      · exact List.mem_append_left _ (List.mem_append_right _ (on_way a1 b1 c2 8 256 Kn.Lev.top a3 a4))
      · refine List.mem_append_right _ ?_
        obtain ⟨x, hx, hk, hw⟩ := wt_pos.mp (of_decide_eq_true a2)
        have hd := ok x hx
        obtain ⟨i', L', U'⟩ := wayL_under 8 256 Kn.Lev.top (Kn.Under.top hd.1 hd.2.1 hd.2.2) hw
        have hi : i' = i := by
          rcases Nat.lt_trichotomy i i' with z | z | z
          · exfalso
            have := Lev.uniq a1 L'
            omega
          · exact z.symm
          · exfalso
            have := Lev.uniq a1 L'
            omega
        subst hi
        obtain ⟨u1, u2, u3⟩ := U'
        exact List.mem_flatMap.mpr ⟨x, List.mem_filter.mpr ⟨hx, decide_eq_true ⟨hk, by omega, by omega⟩⟩, hw⟩
  have hlen := nd_len (lookL_nd 8 256 Kn.Lev.top) hsub
  rw [List.length_append, List.length_append] at hlen
  have w1 := way_len f f
  have w2 := way_len l l
  have w3 : ∀ xs : List OB, (xs.flatMap fun x => Kn.way x.2.2.1 x.2.2.2).length ≤ 9 * xs.length := fun xs => by
    induction xs with
    | nil => exact Nat.le_refl _
    | cons x xs ih =>
      rw [List.flatMap_cons, List.length_append, List.length_cons]
      have := way_len x.2.2.1 x.2.2.2
      omega
  have := w3 (L.filter fun x => decide (x.2.1 = k ∧ x.2.2.1 ≤ l ∧ f ≤ x.2.2.2))
  omega
end L2
namespace Mine
open PySem L2
abbrev sTwos : Stmt := top 35
abbrev sKnot : Stmt := top 36
abbrev sAbove : Stmt := top 37
theorem lev_odd {k : Int} (h : Kn.Lev 0 k) : k % 2 = 1 := by
  obtain ⟨_, m, e, _⟩ := h
  rw [e, Nat.pow_zero, Nat.mul_one]
  omega
theorem lev_even {m : Nat} {k : Int} (h : Kn.Lev (m + 1) k) : k % 2 = 0 ∧ Kn.Lev m (k / 2) := by
  obtain ⟨h8, a, e, hl⟩ := h
  have e2 : (2 * a + 1) * 2 ^ (m + 1) = (2 * a + 1) * 2 ^ m * 2 := by rw [Nat.pow_succ, Nat.mul_assoc]
  rw [e2] at e hl
  generalize hx : (2 * a + 1) * 2 ^ m = x at e hl
  refine ⟨by omega, by omega, a, ?_, by omega⟩
  rw [hx]
  omega
def spTwos : Sp := fun vs H Q _ => ∃ (n : Int) (j : Nat), vs = [.int n] ∧ Kn.Lev j n ∧ Q (.int (j : Int)) H
inductive TwI (H : Hp) (j m : Nat) (σ : St) (H' : Hp) : Prop
  | mk (k : Int) (i : Nat) (h1 : σ = [some (.int k), some (.int (i : Int))]) (h2 : H' = H) (h3 : i + m = j) (h4 : Kn.Lev m k) : TwI H j m σ H'
section
variable {P : Program} {w : World} {K : PySem.W.Frag} {mg : Str → Option Value} {base : Heap}
theorem scTwos : FnScope ["_law_number", "_law_many"] ["_law_number"] (defScope sTwos) := ⟨rfl, rfl, rfl, by decide +kernel, rfl, by decide +kernel, by decide +kernel⟩
theorem ok_twos {f : Addr} {fd : FuncData} (F : Fun K "_law_twos" "_law_twos" sTwos f fd)  : FnOk P w K mg base CX0 1 f fd ["_law_number"] spTwos := by
  refine F.ok (k := 0) scTwos (fun vs H Q E h => ?_) (fun cdv A outer s H vs Q E hr h => ?_)
  · obtain ⟨n, j, rfl, _⟩ := h
    rfl
  · obtain ⟨n, j, rfl, hL, hq⟩ := h
    have hu := hu_of hr
    refine ⟨_, (pss_cons (ps_set (i := 1) scTwos.nd rfl (Or.inl rfl) pe_int)
      (pss_cons (ps_while PassesOwn.never (pt_cmpR op_eq (pe_op op_mod (pv 0) pe_int) pe_int (nomark _)) (pss_cons (ps_set (i := 0) scTwos.nd rfl (Or.inl rfl) (pe_op op_fdiv (pv 0) pe_int))
      (pss_one (ps_set (i := 1) scTwos.nd rfl (Or.inl rfl) (pe_op op_add (pv 1) pe_int)))))
      (pss_one (ps_ret (pv 1))))), ?_⟩
    refine rd_seq (rd_asg ?_)
    dsimp only [gName, List.set_cons_zero, List.set_cons_succ]
    refine rd_seq (rd_while (TwI H j) (m := j) ⟨n, 0, rfl, rfl, by omega, hL⟩ fun m σ H2 hh => ?_)
    obtain ⟨k, i, rfl, rfl, h3, h4⟩ := hh
    refine ⟨_, rfl, _, _, rfl, rfl, by decide, rfl, _, rfl, ite2 (fun hc => ?_) fun hc => ?_⟩
    · have hc : k % 2 = 0 := V.int.inj (of_decide_eq_true hc)
      cases m with
      | zero => have := lev_odd h4; omega
      | succ m =>
        refine ⟨TwI H2 j m, fun σ' H' hn => ⟨m, Nat.lt_succ_self _, hn⟩, ?_⟩
        refine rd_seq (rd_asg ⟨_, rfl, _, _, rfl, rfl, ⟨by decide, by decide⟩, ?_⟩)
        dsimp only [gName, List.set_cons_zero, List.set_cons_succ]
        exact rd_asg ⟨_, rfl, _, _, rfl, rfl, k / 2, i + 1, rfl, rfl, by omega, (lev_even h4).2⟩
    · cases m with
      | zero =>
        refine rd_ret ⟨_, rfl, ?_⟩
        have : i = j := by omega
        rw [this]
        exact hq
      | succ m => exact absurd (decide_eq_true (congrArg V.int (lev_even h4).1)) hc
end
def spKnot : Sp := fun vs H Q _ => ∃ (f l : Int), vs = [.int f, .int l] ∧ 0 ≤ f ∧ f ≤ l ∧ l < 400 ∧ Q (.int (knot f l)) H
inductive KnI (H : Hp) (f l : Int) (i : Nat) (σ : St) (H' : Hp) : Prop
  | mk (c : Int) (v3 : Option V) (h1 : σ = [some (.int f), some (.int l), some (.int c), v3]) (h2 : H' = H) (h3 : f + 1 ≤ c) (h4 : c ≤ l + 1) (h5 : knot f l < f + 1 + i → c = knot f l) : KnI H f l i σ H'
section
variable {P : Program} {w : World} {K : PySem.W.Frag} {mg : Str → Option Value} {base : Heap}
theorem scKnot : FnScope ["_law_first", "_law_last", "_law_best", "_law_number"] ["_law_first", "_law_last"] (defScope sKnot) := ⟨rfl, rfl, rfl, by decide +kernel, rfl, by decide +kernel, by decide +kernel⟩
theorem ok_knot {f f1 : Addr} {fd : FuncData} (F : Fun K "_law_knot" "_law_knot" sKnot f fd) (N : Free mg) {fd1 : FuncData} (CT : Cal P w K mg base "_law_twos" 1 ["_law_number"] spTwos f1 fd1) : FnOk P w K mg base CX0 2 f fd ["_law_first", "_law_last"] spKnot := by
  refine F.ok (k := 1) scKnot (fun vs H Q E h => ?_) (fun cdv A outer s H vs Q E hr h => ?_)
  · obtain ⟨fi, la, rfl, _⟩ := h
    rfl
  · obtain ⟨fi, la, rfl, h0, h1, h2, hq⟩ := h
    have hu := hu_of hr
    refine ⟨_, (pss_cons (ps_set (i := 2) scKnot.nd rfl (Or.inl rfl) (pe_op op_add (pv 0) pe_int))
      (pss_cons (ps_for PassesOwn.never rfl (pi_range2 rfl N.range (pa_kons (pe_op op_add (pv 0) pe_int) (pa_kons (pe_op op_add (pv 1) pe_int) pa_nil))) (pg_name (i := 3) scKnot.nd rfl (Or.inl rfl))
      (pss_one (ps_if (pt_cmpR op_gt (pe_call CT.ok (hr.mono (by decide)) rfl CT.nm CT.kp CT.bd .nil pass0 (pa_kons (pv 3) pa_nil)) (pe_call CT.ok (hr.mono (by decide)) rfl CT.nm CT.kp CT.bd .nil pass0 (pa_kons (pv 2) pa_nil)) (nomark _)) (pss_one (ps_set (i := 2) scKnot.nd rfl (Or.inl rfl) (pv 3))) pss_nil)))
      (pss_one (ps_ret (pv 2))))), ?_⟩
    obtain ⟨jk, Lk, k1, k2, Uk⟩ := knot_lev h0 h1 h2
    refine rd_seq (rd_asg ⟨_, rfl, _, _, rfl, rfl, ?_⟩)
    dsimp only [gName, List.set_cons_zero, List.set_cons_succ]
    refine rd_seq ⟨_, rfl, _, _, rfl, rfl, _, rfl, _, _, rfl, rfl, _, _, rfl, ⟨by omega, by omega, by omega, by omega⟩, for_range (lo := fi + 1) (n := (la + 2 - (fi + 1)).toNat) (KnI H fi la) ⟨fi + 1, none, rfl, rfl, Int.le_refl _, by omega, fun z => by omega⟩ (fun i σ H2 hi hh => ?_) fun σ H2 hh => ?_⟩
    · obtain ⟨c, v3, rfl, rfl, h3, h4, h5⟩ := hh
      have hi : (i : Int) < la + 2 - (fi + 1) := by omega
      dsimp only [gName, List.set_cons_zero, List.set_cons_succ]
      obtain ⟨j1, L1⟩ := Lev.exI (k := fi + 1 + i) (by omega) (by omega)
      obtain ⟨j2, L2'⟩ := Lev.exI (k := c) (by omega) (by omega)
      refine rd_if ⟨_, rfl, _, j1, rfl, L1, _, rfl, _, j2, rfl, L2', _, _, rfl, rfl, _, rfl, ite2 (fun hc => ?_) fun hc => ?_⟩
      · have hc : (j1 : Int) > (j2 : Int) := of_decide_eq_true hc
        refine rd_asg ⟨_, rfl, fi + 1 + i, _, rfl, rfl, by omega, by omega, fun z => ?_⟩
        by_cases e : fi + 1 + (i : Int) = knot fi la
        · exact e
        · have hcn : c = knot fi la := h5 (by omega)
          have := knot_most h0 h1 h2 Lk Uk L1 (by omega) (by omega) e
          rw [hcn] at L2'
          have := Lev.uniq L2' Lk
          omega
      · have hc : ¬ (j1 : Int) > (j2 : Int) := fun z => hc (decide_eq_true z)
        refine rd_next ⟨c, _, rfl, rfl, h3, h4, fun z => ?_⟩
        by_cases e : knot fi la < fi + 1 + (i : Int)
        · exact h5 e
        · have e : fi + 1 + (i : Int) = knot fi la := by omega
          rw [e] at L1
          have hj := Lev.uniq L1 Lk
          by_cases ec : c = knot fi la
          · exact ec
          · have := knot_most h0 h1 h2 Lk Uk L2' h3 h4 ec
            omega
    · obtain ⟨c, v3, rfl, rfl, h3, h4, h5⟩ := hh
      have := h5 (by omega)
      subst this
      exact rd_ret ⟨_, rfl, hq⟩
end
def spAbove : Sp := fun vs H Q _ => ∃ (n : Int) (j : Nat) (r : List Int), vs = [.int n] ∧ Road j n r ∧ ∀ p, H p = none → Q (.ref p) (upd H p (.lst (r.map V.int)))
inductive AbI (H : Hp) (n : Int) (p : Addr) (r : List Int) (m : Nat) (σ : St) (H' : Hp) : Prop
  | mk (xs r' : List Int) (jj : Nat) (c : Int) (v2 v3 : Option V) (h1 : σ = [some (.int n), some (.ref p), v2, v3]) (h2 : H' = upd H p (.lst ((xs ++ [c]).map V.int))) (h3 : Road jj c r') (h4 : xs ++ r' = r) (h5 : jj + m = 8) : AbI H n p r m σ H'
theorem road_lev {j : Nat} {c : Int} {r : List Int} (h : Road j c r) : (c = 256 ↔ j = 8) := by
  have L := h.lev
  constructor
  · rintro rfl
    exact Lev.uniq L Kn.Lev.top
  · rintro rfl
    cases h with
    | top => rfl
    | up _ h _ => omega
section
variable {P : Program} {w : World} {K : PySem.W.Frag} {mg : Str → Option Value} {base : Heap}
theorem scAbove : FnScope ["_law_number", "_law_road", "_law_half", "_law_over"] ["_law_number"] (defScope sAbove) := ⟨rfl, rfl, rfl, by decide +kernel, rfl, by decide +kernel, by decide +kernel⟩
theorem ok_above {f f1 : Addr} {fd : FuncData} (F : Fun K "_law_above" "_law_above" sAbove f fd) {fd1 : FuncData} (CT : Cal P w K mg base "_law_twos" 1 ["_law_number"] spTwos f1 fd1) : FnOk P w K mg base CX0 2 f fd ["_law_number"] spAbove := by
  refine F.ok (k := 1) scAbove (fun vs H Q E h => ?_) (fun cdv A outer s H vs Q E hr h => ?_)
  · obtain ⟨n, j, r, rfl, _⟩ := h
    rfl
  · obtain ⟨n, j, r, rfl, hR, hq⟩ := h
    have hu := hu_of hr
    refine ⟨_, (pss_cons (ps_set (i := 1) scAbove.nd rfl (Or.inl rfl) (pe_lst (pa_kons (pv 0) pa_nil)))
      (pss_cons (ps_while PassesOwn.never (pt_cmpR op_ne (pe_ix ix_list (pv 1) (pe_un un_neg pe_int) (fun _ _ => rfl)) pe_int (nomark _)) (pss_cons (ps_set (i := 2) scAbove.nd rfl (Or.inl rfl) (pe_op op_shl pe_int (pe_call CT.ok (hr.mono (by decide)) rfl CT.nm CT.kp CT.bd .nil pass0 (pa_kons (pe_ix ix_list (pv 1) (pe_un un_neg pe_int) (fun _ _ => rfl)) pa_nil))))
      (pss_cons (ps_set (i := 3) scAbove.nd rfl (Or.inl rfl) (pe_op op_sub (pe_ix ix_list (pv 1) (pe_un un_neg pe_int) (fun _ _ => rfl)) (pv 2)))
      (pss_cons (ps_if (pt_cmpR op_eq (pe_op op_mod (pe_op op_fdiv (pe_op op_fdiv (pv 3) (pv 2)) pe_int) pe_int) pe_int (nomark _)) (pss_one (ps_set (i := 3) scAbove.nd rfl (Or.inl rfl) (pe_op op_add (pe_ix ix_list (pv 1) (pe_un un_neg pe_int) (fun _ _ => rfl)) (pv 2)))) pss_nil)
      (pss_one (ps_expr (pe_bm PySem.F.plainAttrs_list PySem.F.slot_list_append PySem.F.type_list_append mt_append (pv 1) (pa_kons (pv 3) pa_nil))))))))
      (pss_one (ps_ret (pv 1))))), ?_⟩
    refine rd_seq (rd_asg ⟨_, rfl, by show 1 ≤ sizeLine; decide, fun p np => ?_⟩)
    dsimp only [gName, List.set_cons_zero, List.set_cons_succ]
    have h8 := hR.lev.1
    refine rd_seq (rd_while (AbI H n p r) (m := 8 - j) ⟨[], r, j, n, none, none, rfl, rfl, hR, rfl, by omega⟩ fun m σ H2 hh => ?_)
    obtain ⟨xs, r', jj, c, v2, v3, rfl, rfl, h3, h4, h5⟩ := hh
    have at1 : ∀ H : Hp, SqL K (upd H p (.lst ((xs ++ [c]).map V.int))) p ((xs ++ [c]).map V.int) := fun _ => SqL.of upd_same
    have ea : atI ((xs ++ [c]).map V.int) (-1) = some (.int c) := by rw [List.map_append]; exact atI_snoc _ _
    have LL := h3.lev
    have l1 := Lev.pos LL
    have hp1 := pow_pos jj
    have hp2 : ((2 ^ jj : Nat) : Int) < 1073741824 := by have := Kn.pow_le_8 LL.1; omega
    refine ⟨_, rfl, 1, rfl, p, _, _, _, rfl, rfl, at1 H, ea, rfl, _, rfl, ite2 (fun hc => ?_) fun hc => ?_⟩
    · have hc : ¬ c = 256 := fun z => by rw [z] at hc; exact absurd hc (by decide)
      have hj : jj ≠ 8 := fun z => hc ((road_lev h3).mpr z)
      cases h3 with
      | top => exact absurd rfl hj
      | @up _ _ r2 _ hlt t =>
        refine ⟨AbI H n p r (m - 1), fun σ' H' hn => ⟨m - 1, by omega, hn⟩, ?_⟩
        refine rd_seq (rd_asg ⟨_, rfl, 1, rfl, p, _, _, _, rfl, rfl, at1 H, ea, c, jj, rfl, LL, _, _, rfl, rfl, ⟨by omega, by omega, by decide⟩, ?_⟩)
        rw [Int.one_mul, Int.toNat_natCast, show (2 : Int) ^ jj = ((2 ^ jj : Nat) : Int) by rw [Int.natCast_pow]; rfl]
        dsimp only [gName, List.set_cons_zero, List.set_cons_succ]
        refine rd_seq (rd_asg ⟨_, rfl, 1, rfl, p, _, _, _, rfl, rfl, at1 H, ea, _, rfl, _, _, rfl, rfl, ?_⟩)
        dsimp only [gName, List.set_cons_zero, List.set_cons_succ]
        refine rd_cut (fun σ' H' => H' = upd H p (.lst ((xs ++ [c]).map V.int)) ∧ ∃ v2, σ' = [some (.int n), some (.ref p), v2, some (.int (par jj c))]) (fun R hR => ?_) (fun σ' H' hpp => ?_)
        · refine rd_if ⟨_, rfl, _, rfl, _, _, rfl, rfl, ⟨by omega, hp2⟩, _, _, rfl, rfl, ⟨by decide, by decide⟩, _, _, rfl, rfl, by decide, rfl, _, rfl, ite2 (fun hd => ?_) fun hd => ?_⟩
          · have hd := V.int.inj (of_decide_eq_true hd)
            refine rd_asg ⟨_, rfl, 1, rfl, p, _, _, _, rfl, rfl, at1 H, ea, _, rfl, _, _, rfl, rfl, hR _ _ ⟨rfl, some (.int ((2 ^ jj : Nat) : Int)), ?_⟩⟩
            unfold par
            rw [if_pos hd]
            rfl
          · have hd : ¬ _ := fun z => hd (decide_eq_true (congrArg V.int z))
            refine rd_next (hR _ _ ⟨rfl, some (.int ((2 ^ jj : Nat) : Int)), ?_⟩)
            unfold par
            rw [if_neg hd]
        · obtain ⟨rfl, v2, rfl⟩ := hpp
          have hl := congrArg List.length h4
          have hrl := t.len
          have hR9 := hR.len
          rw [List.length_append, List.length_cons] at hl
          refine rd_expr ⟨_, rfl, .inl ⟨rfl, _, at1 H⟩, _, rfl, p, _, _, rfl, rfl, upd_same, ?_, xs ++ [c], r2, jj + 1, par jj c, _, _, rfl, ?_, t, ?_, by omega⟩
          · rw [List.length_map, List.length_append, List.length_singleton]
            exact small1000 (by omega)
          · rw [upd_upd, List.map_append (l₂ := [par jj c])]; rfl
          · rw [List.append_assoc]; exact h4
    · have hc : c = 256 := by
        by_cases z : c = 256
        · exact z
        · exfalso
          refine hc ?_
          show (!decide (V.int c = V.int 256)) = true
          rw [decide_eq_false (fun e => z (V.int.inj e))]
          rfl
      have h8 := (road_lev h3).mp hc
      refine rd_ret ⟨_, rfl, ?_⟩
      have er : xs ++ [c] = r := by
        subst h8
        cases h3 with
        | top => exact h4
        | up _ hh _ => omega
      rw [er]
      exact hq p np
end
end Mine
namespace Mine
open PySem L2
abbrev sLook3 : Stmt := top 40
theorem rd_if3 {t : TT} {s1 s2 : TS} {D : Ends} {σ : St} {H : Hp} (P : Prop) (h : ∀ Q : Bool → Hp → Prop, (P → Q true H) → (¬ P → Q false H) → t σ H Q) (h1 : P → s1 D σ H) (h2 : ¬ P → s2 D σ H) : tIfS t s1 s2 D σ H := rd_if (h _ (fun p => iteT (h1 p)) (fun p => iteF (h2 p)))
theorem dec2 {Q : Bool → Hp → Prop} {H : Hp} {p : Prop} [Decidable p] (h1 : p → Q true H) (h2 : ¬ p → Q false H) : Q (decide p) H := by
  by_cases c : p
  · rw [decide_eq_true c]; exact h1 c
  · rw [decide_eq_false c]; exact h2 c
def spLook3 : Sp := fun vs H Q _ => ∃ (d : Addr) (es : List (Key × V)) (f l : Int) (T : Int → Bool), vs = [.ref d, .int f, .int l] ∧ H d = some (.dK es) ∧ (∀ n, (valV es (Sum.inl n)).isSome = T n) ∧
  ∀ (r : Addr) (H' : Hp), H r = none → Grow H H' → H' r = some (.lst ((lookL T f l 8 256).map V.int)) → Q (.ref r) H'
inductive LkV (H : Hp) (d lk lw : Addr) (f l : Int) (T : Int → Bool) (m : Nat) (σ : St) (H2 : Hp) : Prop
  | mk (dn : List Int) (ws : List (Nat × Int)) (v5 v6 : Option V) (h1 : σ = [some (.ref d), some (.int f), some (.int l), some (.ref lk), some (.ref lw), v5, v6]) (h2 : Grow H H2) (h3 : H2 lk = some (.lst (dn.map V.int))) (h4 : H2 lw = some (.lst ((ws.map (·.2)).map V.int)))
    (h5 : ∀ x ∈ ws, Kn.Lev x.1 x.2) (h6 : dn ++ todo T f l ws = lookL T f l 8 256) (h7 : m = muW ws) (h8 : muW ws ≤ 511) : LkV H d lk lw f l T m σ H2
theorem below_hf (j : Nat) (k f l : Int) : below j k f l = (if 0 < ((2 ^ j : Nat) : Int) / 2 ∧ f + 1 < k then [k - ((2 ^ j : Nat) : Int) / 2] else []) ++ (if 0 < ((2 ^ j : Nat) : Int) / 2 ∧ l + 1 > k then [k + ((2 ^ j : Nat) : Int) / 2] else []) := by
  cases j with
  | zero => rfl
  | succ j =>
    have e : ((2 ^ (j + 1) : Nat) : Int) / 2 = ((2 ^ j : Nat) : Int) := by rw [Nat.pow_succ]; omega
    have p := pow_pos j
    rw [e]
    show (if f + 1 < k then [k - ((2 ^ j : Nat) : Int)] else []) ++ (if k < l + 1 then [k + ((2 ^ j : Nat) : Int)] else []) = _
    congr 1
    · by_cases c : f + 1 < k
      · rw [if_pos c, if_pos ⟨by omega, c⟩]
      · rw [if_neg c, if_neg (fun z => c z.2)]
    · by_cases c : k < l + 1
      · rw [if_pos c, if_pos ⟨by omega, c⟩]
      · rw [if_neg c, if_neg (fun z => c (by omega))]
inductive LkM (H : Hp) (d lk lw : Addr) (f l kn hf : Int) (dn ys : List Int) (σ : St) (H2 : Hp) : Prop
  | mk (h1 : σ = [some (.ref d), some (.int f), some (.int l), some (.ref lk), some (.ref lw), some (.int kn), some (.int hf)]) (h2 : Grow H H2) (h3 : H2 lk = some (.lst (dn.map V.int))) (h4 : H2 lw = some (.lst (ys.map V.int))) : LkM H d lk lw f l kn hf dn ys σ H2
theorem LkM.add {H H2 : Hp} {d lk lw : Addr} {f l kn hf : Int} {dn ys zs : List Int} {σ : St} {x : Int} (h : LkM H d lk lw f l kn hf dn ys σ H2) (nlw : H lw = none) (hkw : lk ≠ lw) (e : ys ++ [x] = zs) : LkM H d lk lw f l kn hf dn zs σ (upd H2 lw (.lst (ys.map V.int ++ [V.int x]))) := by
  obtain ⟨h1, h2, h3, h4⟩ := h
  refine ⟨h1, fun b o e => by rw [upd_ne (ne_of_none e nlw)]; exact h2 _ _ e, by rw [upd_ne hkw]; exact h3, ?_⟩
  rw [upd_same, ← e, List.map_append]; rfl
section
variable {P : Program} {w : World} {K : PySem.W.Frag} {mg : Str → Option Value} {base : Heap}
theorem scLook3 : FnScope ["_law_there_here", "_law_first", "_law_last", "_law_found", "_law_line", "_law_number", "_law_half"] ["_law_there_here", "_law_first", "_law_last"] (defScope sLook3) := ⟨rfl, rfl, rfl, by decide +kernel, rfl, by decide +kernel, by decide +kernel⟩
theorem ok_look3 {f f1 : Addr} {fd : FuncData} (F : Fun K "_law_looked" "_law_looked" sLook3 f fd) {fd1 : FuncData} (CT : Cal P w K mg base "_law_twos" 1 ["_law_number"] spTwos f1 fd1) : FnOk P w K mg base CX0 2 f fd ["_law_there_here", "_law_first", "_law_last"] spLook3 := by
  refine F.ok (k := 1) scLook3 (fun vs H Q E h => ?_) (fun cdv A outer s H vs Q E hr h => ?_)
  · obtain ⟨d, es, fi, la, T, rfl, _⟩ := h
    rfl
  · obtain ⟨d, es, fi, la, T, rfl, hd, hT, hq⟩ := h
    have hu := hu_of hr
    refine ⟨_, (pss_cons (ps_set (i := 3) scLook3.nd rfl (Or.inl rfl) (pe_lst pa_nil))
      (pss_cons (ps_set (i := 4) scLook3.nd rfl (Or.inl rfl) (pe_lst (pa_kons pe_int pa_nil)))
      (pss_cons (ps_while PassesOwn.never (pt_cmpR (op_neNil hr.units) (pv 4) (pe_lst pa_nil) (nomark _)) (pss_cons (ps_set (i := 5) scLook3.nd rfl (Or.inl rfl) (pe_bm0 PySem.F.plainAttrs_list PySem.F.slot_list_pop PySem.F.type_list_pop mt_pop (pv 4)))
      (pss_one (ps_if (pt_cmp (pc_din hu (pv 5) (pv 0))) (pss_cons (ps_expr (pe_bm PySem.F.plainAttrs_list PySem.F.slot_list_append PySem.F.type_list_append mt_append (pv 3) (pa_kons (pv 5) pa_nil)))
      (pss_cons (ps_set (i := 6) scLook3.nd rfl (Or.inl rfl) (pe_op op_fdiv (pe_op op_shl pe_int (pe_call CT.ok (hr.mono (by decide)) rfl CT.nm CT.kp CT.bd .nil pass0 (pa_kons (pv 5) pa_nil))) pe_int))
      (pss_cons (ps_if (PW.pt (pw_and (pt_cmpR op_gt (pv 6) pe_int (nomark _)) (pw_and1 (pt_cmpR op_lt (pe_op op_add (pv 1) pe_int) (pv 5) (nomark _))))) (pss_one (ps_expr (pe_bm PySem.F.plainAttrs_list PySem.F.slot_list_append PySem.F.type_list_append mt_append (pv 4) (pa_kons (pe_op op_sub (pv 5) (pv 6)) pa_nil)))) pss_nil)
      (pss_one (ps_if (PW.pt (pw_and (pt_cmpR op_gt (pv 6) pe_int (nomark _)) (pw_and1 (pt_cmpR op_gt (pe_op op_add (pv 2) pe_int) (pv 5) (nomark _))))) (pss_one (ps_expr (pe_bm PySem.F.plainAttrs_list PySem.F.slot_list_append PySem.F.type_list_append mt_append (pv 4) (pa_kons (pe_op op_add (pv 5) (pv 6)) pa_nil)))) pss_nil))))) pss_nil))))
      (pss_one (ps_ret (pv 3)))))), ?_⟩
    refine rd_seq (rd_asg ⟨by show 0 ≤ sizeLine; decide, fun lk nlk => ?_⟩)
    dsimp only [gName]
    refine rd_seq (rd_asg ⟨by show 1 ≤ sizeLine; decide, fun lw nlw => ?_⟩)
    dsimp only [gName]
    have hkw : lk ≠ lw := fun z => by rw [← z, upd_same] at nlw; cases nlw
    have nlw0 : H lw = none := by
      cases e : H lw with
      | none => rfl
      | some v => rw [upd_ne (ne_of_none e nlk), e] at nlw; cases nlw
    refine rd_seq (rd_while (LkV H d lk lw fi la T) (m := 511) ⟨[], [(8, 256)], none, none, rfl, fun b o e => by rw [upd_ne (ne_of_none e nlw0), upd_ne (ne_of_none e nlk)]; exact e, by rw [upd_ne hkw, upd_same]; rfl, upd_same, fun x hx => by rw [List.mem_singleton.mp hx]; exact Kn.Lev.top, by simp [todo], rfl, by decide⟩ fun m σ H2 hW => ?_)
    obtain ⟨dn, ws, v5, v6, rfl, g, ek, ew, hL, hdn, rfl, h511⟩ := hW
    refine ⟨_, rfl, by show 0 ≤ sizeLine; decide, fun l0 nl0 => ?_⟩
    obtain ⟨g0, e0⟩ := laid (o := .lst []) nl0
    have gg := g.trans g0
    have ek := g0 _ _ ek
    have ew := g0 _ _ ew
    clear g
    generalize upd H2 l0 _ = H3 at g0 e0 gg ek ew ⊢
    clear g0 nl0
    refine ⟨lw, l0, _, rfl, rfl, ew, e0, _, rfl, ?_⟩
    rcases List.eq_nil_or_concat ws with rfl | ⟨ws', x, hws⟩
    · refine iteF ⟨_, rfl, hq lk H3 nlk gg ?_⟩
      rw [ek, ← hdn]
      show _ = some (HO.lst ((dn ++ []).map V.int))
      rw [List.append_nil]
    · rw [List.concat_eq_append] at hws
      subst hws
      obtain ⟨j, kn⟩ := x
      have Lk : Kn.Lev j kn := hL (j, kn) (List.mem_append_right _ (List.mem_singleton.mpr rfl))
      have hne : ((((ws' ++ [(j, kn)]).map (·.2)).map V.int).isEmpty) = false := by simp
      rw [hne]
      have hlen := muW_len (ws' ++ [(j, kn)])
      rw [List.length_append, List.length_singleton] at hlen
      have ew' : (((ws' ++ [(j, kn)]).map (·.2)).map V.int) = (ws'.map (·.2)).map V.int ++ [.int kn] := by simp
      rw [ew'] at ew
      refine iteT ⟨_, fun _ _ h => h, rd_seq (rd_asg ⟨_, rfl, .inl ⟨rfl, _, SqL.of ew⟩, lw, _, .int kn, rfl, rfl, ew, by simp, ?_⟩)⟩
      rw [List.dropLast_concat]
      dsimp only [gName, List.set_cons_zero, List.set_cons_succ]
      have k4 : Grow H (upd H3 lw (.lst ((ws'.map (·.2)).map V.int))) := fun b o e => by rw [upd_ne (ne_of_none e nlw0)]; exact gg _ _ e
      have ek4 : upd H3 lw (.lst ((ws'.map (·.2)).map V.int)) lk = some (.lst (dn.map V.int)) := by rw [upd_ne hkw]; exact ek
      have ew4 : upd H3 lw (.lst ((ws'.map (·.2)).map V.int)) lw = some (.lst ((ws'.map (·.2)).map V.int)) := upd_same
      generalize upd H3 lw _ = H4 at k4 ek4 ew4 ⊢
      refine rd_if ⟨_, rfl, _, rfl, d, _, rfl, DGet.k (k := Sum.inl kn) (k4 _ _ hd), ?_⟩
      rw [hT]
      refine ⟨_, rfl, ?_⟩
      by_cases hTk : T kn = true
      · rw [hTk]
        have hdl : dn.length ≤ 511 := by
          have := lookL_len T fi la 8 256
          rw [← hdn, List.length_append] at this
          have : 2 ^ (8 + 1) = 512 := rfl
          omega
        refine iteT (rd_seq (rd_expr ⟨_, rfl, .inl ⟨rfl, _, SqL.of ek4⟩, _, rfl, lk, _, _, rfl, rfl, ek4, by rw [List.length_map]; exact small1000 (by omega), ?_⟩))
        dsimp only
        have k5 : Grow H (upd H4 lk (.lst (dn.map V.int ++ [.int kn]))) := fun b o e => by rw [upd_ne (ne_of_none e nlk)]; exact k4 _ _ e
        have ek5 : upd H4 lk (.lst (dn.map V.int ++ [.int kn])) lk = some (.lst ((dn ++ [kn]).map V.int)) := by rw [upd_same, List.map_append]; rfl
        have ew5 : upd H4 lk (.lst (dn.map V.int ++ [.int kn])) lw = some (.lst ((ws'.map (·.2)).map V.int)) := by rw [upd_ne (Ne.symm hkw)]; exact ew4
        generalize upd H4 lk _ = H5 at k5 ek5 ew5 ⊢
        refine rd_seq (rd_asg ⟨_, rfl, _, j, rfl, Lk, _, _, rfl, rfl, ⟨by omega, by have := Lk.1; omega, by decide⟩, _, _, rfl, rfl, ⟨by decide, by decide⟩, ?_⟩)
        rw [Int.one_mul, Int.toNat_natCast, show (2 : Int) ^ j = ((2 ^ j : Nat) : Int) by rw [Int.natCast_pow]; rfl]
        dsimp only [gName, List.set_cons_zero, List.set_cons_succ]
        have hbl := below_len j kn fi la
        have hbf := below_hf j kn fi la
        generalize ((2 ^ j : Nat) : Int) / 2 = hf at hbf ⊢
        have hl1 : ((ws'.map (·.2)).map V.int).length < sizeLine := by rw [List.length_map, List.length_map]; exact small1000 (by omega)
        have m0 : LkM H d lk lw fi la kn hf (dn ++ [kn]) (ws'.map (·.2)) [some (.ref d), some (.int fi), some (.int la), some (.ref lk), some (.ref lw), some (.int kn), some (.int hf)] H5 := ⟨rfl, k5, ek5, ew5⟩
        refine rd_cut (LkM H d lk lw fi la kn hf (dn ++ [kn]) (ws'.map (·.2) ++ (if 0 < hf ∧ fi + 1 < kn then [kn - hf] else []))) (fun R hR => ?_) (fun σ' H' hp => ?_)
        · refine rd_if3 (0 < hf ∧ fi + 1 < kn) (fun Q hT2 hF => ?_) (fun hc => ?_) (fun hc => ?_)
          · refine ⟨_, rfl, _, _, rfl, rfl, _, rfl, ite2 (fun c1 => ⟨_, rfl, _, _, rfl, rfl, _, rfl, _, _, rfl, rfl, _, rfl, ?_⟩) fun c1 => hF fun z => c1 (decide_eq_true z.1)⟩
            exact dec2 (fun c2 => hT2 ⟨of_decide_eq_true c1, c2⟩) fun c2 => hF fun z => c2 z.2
          · rw [if_pos hc] at hR
            exact rd_expr ⟨_, rfl, .inl ⟨rfl, _, SqL.of ew5⟩, _, rfl, _, rfl, _, _, rfl, rfl, lw, _, _, rfl, rfl, ew5, hl1, hR _ _ (m0.add nlw0 hkw rfl)⟩
          · rw [if_neg hc, List.append_nil] at hR
            exact rd_next (hR _ _ m0)
        · have hp' := hp
          obtain ⟨rfl, k6, ek6, ew6⟩ := hp
          rw [hbf, List.length_append] at hbl
          have hl2 : ((ws'.map (·.2) ++ (if 0 < hf ∧ fi + 1 < kn then [kn - hf] else [])).map V.int).length < sizeLine := by
            rw [List.length_map, List.length_append, List.length_map]
            exact small1000 (by omega)
          have done : ∀ σ' H', LkM H d lk lw fi la kn hf (dn ++ [kn]) (ws'.map (·.2) ++ below j kn fi la) σ' H' → ∃ m', m' < muW (ws' ++ [(j, kn)]) ∧ LkV H d lk lw fi la T m' σ' H' := fun σ' H' hm => by
            obtain ⟨h1, h2, h3, h4⟩ := hm
            refine ⟨muW (ws' ++ lowW j (below j kn fi la)), muW_below _ _ _ _ _, dn ++ [kn], ws' ++ lowW j (below j kn fi la), _, _, h1, h2, h3, ?_, fun x hx => ?_, ?_, rfl, Nat.le_of_lt (Nat.lt_of_lt_of_le (muW_below _ _ _ _ _) h511)⟩
            · rw [h4, List.map_append (l₁ := ws'), show (lowW j (below j kn fi la)).map (·.2) = below j kn fi la from by unfold lowW; rw [List.map_map]; exact List.map_id _]
            · rcases List.mem_append.mp hx with hx | hx
              · exact hL x (List.mem_append_left _ hx)
              · obtain ⟨m', hm, rfl⟩ := List.mem_map.mp hx
                exact below_lev Lk hm
            · rw [← hdn, todo_yes hTk, List.append_assoc]; rfl
          refine rd_if3 (0 < hf ∧ la + 1 > kn) (fun Q hT2 hF => ?_) (fun hc => ?_) (fun hc => ?_)
          · refine ⟨_, rfl, _, _, rfl, rfl, _, rfl, ite2 (fun c1 => ⟨_, rfl, _, _, rfl, rfl, _, rfl, _, _, rfl, rfl, _, rfl, ?_⟩) fun c1 => hF fun z => c1 (decide_eq_true z.1)⟩
            exact dec2 (fun c2 => hT2 ⟨of_decide_eq_true c1, c2⟩) fun c2 => hF fun z => c2 z.2
          · refine rd_expr ⟨_, rfl, .inl ⟨rfl, _, SqL.of ew6⟩, _, rfl, _, rfl, _, _, rfl, rfl, lw, _, _, rfl, rfl, ew6, hl2, done _ _ (hp'.add nlw0 hkw ?_)⟩
            rw [hbf, if_pos hc, List.append_assoc]
          · refine rd_next (done _ _ ?_)
            rw [hbf, if_neg hc, List.append_nil]
            exact hp'
      · have hTk : T kn = false := by simpa using hTk
        rw [hTk]
        refine iteF (rd_next ⟨muW ws', ?_, dn, ws', _, _, rfl, k4, ek4, ew4, fun x hx => hL x (List.mem_append_left _ hx), by rw [← hdn, todo_no hTk], rfl, ?_⟩)
        · rw [muW_snoc]
          have : 2 ≤ 2 ^ (j + 1) := by rw [Nat.pow_succ]; have := Nat.two_pow_pos j; omega
          show muW ws' < muW ws' + (2 ^ (j + 1) - 1)
          omega
        · rw [muW_snoc] at h511
          omega
end
end Mine
namespace Mine
open PySem L2
abbrev sKnots : Stmt := top 38
abbrev kf (f l : Int) : List Key := [Sum.inl f, Sum.inl l]
theorem kf_inj {f l f' l' : Int} (h : kf f l = kf f' l') : f = f' ∧ l = l' := by
  injection h with h1 h2
  injection h2 with h2 _
  exact ⟨Sum.inl.inj h1, Sum.inl.inj h2⟩
abbrev bsOf (J : Ix) : List RwB := J.flatMap (·.2)
inductive KdS (H : Hp) (q p : Addr) (ob : Obj) (kvs : List (Key × V)) (bs : List RwB) (σ : St) (H2 : Hp) : Prop
  | mk (kd : List (List Key × V)) (v2 v3 v4 v5 : Option V) (h1 : σ = [some (.ref q), some (.ref p), v2, v3, v4, v5]) (h2 : ∀ b o, H b = some o → b ≠ q → H2 b = some o) (h3 : H2 q = some (.frz ob (.dK kvs))) (h4 : H2 p = some (.dT kd)) (h5 : ∀ f l v, valV kd (kf f l) = some v → v = .int (knot f l)) (h6 : ∀ r ∈ bs, (valV kd (kf r.2.1 r.2.2)).isSome = true) (h7 : kd.length ≤ bs.length) : KdS H q p ob kvs bs σ H2
theorem bsOf_take {J : Ix} {i : Nat} {x : Str × List RwB} (h : J[i]? = some x) : bsOf (J.take (i + 1)) = bsOf (J.take i) ++ x.2 := by
  unfold bsOf
  rw [List.take_add_one, h, List.flatMap_append]
  show _ ++ ([x].flatMap (·.2)) = _
  rw [List.flatMap_cons, List.flatMap_nil, List.append_nil]
theorem bsOf_len {J : Ix} {i : Nat} {x : Str × List RwB} (h : J[i]? = some x) : (bsOf (J.take i)).length + x.2.length ≤ (bsOf J).length := by
  have e := bsOf_take h
  have e2 : bsOf J = bsOf (J.take (i + 1)) ++ bsOf (J.drop (i + 1)) := by unfold bsOf; rw [← List.flatMap_append, List.take_append_drop]
  rw [e2, e, List.length_append, List.length_append]
  omega
theorem mem_bsOf {J : Ix} {x : Str × List RwB} {r : RwB} (h : x ∈ J) (hr : r ∈ x.2) : r ∈ bsOf J := List.mem_flatMap.mpr ⟨x, h, hr⟩
def spKnots : Sp := fun vs H Q _ => ∃ (q : Addr) (kvs : List (Key × V)) (J : Ix), vs = [.ref q] ∧ H q = some (.dK kvs) ∧ Paired (KpR H) kvs J ∧ (J.map (·.1)).Nodup ∧ (∀ x ∈ J, ∀ r ∈ x.2, DayOk r) ∧ (bsOf J).length ≤ 100000 ∧
  ∀ (p : Addr) (kd : List (List Key × V)) (H' : Hp), H p = none → Grow H H' → H' p = some (.dT kd) → (∀ r ∈ bsOf J, valV kd (kf r.2.1 r.2.2) = some (.int (knot r.2.1 r.2.2))) → Q (.ref p) H'
section
variable {P : Program} {w : World} {K : PySem.W.Frag} {mg : Str → Option Value} {base : Heap}
theorem scKnots : FnScope ["_law_kept", "_law_knots_here", "_law_owner", "_law_key", "_law_first", "_law_last"] ["_law_kept"] (defScope sKnots) := ⟨rfl, rfl, rfl, by decide +kernel, rfl, by decide +kernel, by decide +kernel⟩
theorem ok_knots {f f1 : Addr} {fd : FuncData} (F : Fun K "_law_knots" "_law_knots" sKnots f fd) {fd1 : FuncData} (CO : Cal P w K mg base "_law_knot" 2 ["_law_first", "_law_last"] spKnot f1 fd1) : FnOk P w K mg base CX0 3 f fd ["_law_kept"] spKnots := by
  refine F.ok (k := 2) scKnots (fun vs H Q E h => ?_) (fun cdv A outer s H vs Q E hr h => ?_)
  · obtain ⟨q, kvs, J, rfl, _⟩ := h
    rfl
  · obtain ⟨q, kvs, J, rfl, hkq, hkp, hnd, hok, hlen, hq⟩ := h
    have hu := hu_of hr
    refine ⟨_, (pss_cons (ps_set (i := 1) scKnots.nd rfl (Or.inl rfl) pe_dnewT)
      (pss_cons (ps_frz (ps_for PassesOwn.never rfl (pi_dict (pv 0)) (pg_name (i := 2) scKnots.nd rfl (Or.inl rfl))
      (pss_one (ps_for PassesOwn.never rfl (pi_list (pe_dget hu (pv 0) (pv 2) (fun _ _ => rfl))) (pg_tup rfl (pgs_cons (pg_name (i := 3) scKnots.nd rfl (Or.inl rfl)) (pgs_cons (pg_name (i := 4) scKnots.nd rfl (Or.inl rfl)) (pgs_cons (pg_name (i := 5) scKnots.nd rfl (Or.inl rfl)) pgs_nil))))
      (pss_one (ps_if (pt_cmp (pc_dnotin hu (pe_tup (pa_kons (pv 4) (pa_kons (pv 5) pa_nil))) (pv 1))) (pss_one (ps_dput hu (pv 1) (pe_tup (pa_kons (pv 4) (pa_kons (pv 5) pa_nil))) (pe_call CO.ok (hr.mono (by decide)) rfl CO.nm CO.kp CO.bd .nil pass0 (pa_kons (pv 4) (pa_kons (pv 5) pa_nil))) rfl)) pss_nil))))))
      (pss_one (ps_ret (pv 1))))), ?_⟩
    refine rd_seq (rd_asg fun p np => ?_)
    obtain ⟨g1, e1⟩ := laid (o := .dT []) np
    dsimp only [gName]
    generalize upd H p _ = H3 at g1 e1 ⊢
    have kq3 := g1 _ _ hkq
    have kn : (kvs.map (·.1)).Nodup := by rw [kp_keys hkp]; exact List.pairwise_map.mpr (List.Pairwise.imp (fun hne z => hne (Sum.inr.inj z)) hnd)
    have hqp : p ≠ q := ne_of e1 kq3 (fun z => nomatch z)
    refine rd_seq ⟨q, kvs, kq3, fun ob => ⟨_, rfl, q, ob, kvs, rfl, upd_same, for_dict (fun i => KdS H q p ob kvs (bsOf (J.take i))) ⟨[], none, none, none, none, rfl, fun b o e hb => by rw [upd_ne hb]; exact g1 _ _ e, upd_same, by rw [upd_ne hqp]; exact e1, (fun f l v z => nomatch z), (fun r z => nomatch z), Nat.le_refl _⟩ (fun i σ H4 _ hh => ?_) (fun i kv σ H4 hi hh => ?_) fun σ H4 hh => ?_⟩⟩
    · obtain ⟨kd, v2, v3, v4, v5, rfl, e2, e3, e4, e5, e6, e7⟩ := hh
      exact e3
    · obtain ⟨x, ex, hk1, lb, hk2, ⟨qs, eqs, rqs⟩⟩ := paired_get hkp hi
      have hv : valV kvs (Sum.inr x.1) = some (.ref lb) := by
        have := valV_mem kn kv (List.mem_of_getElem? hi)
        rw [hk1, hk2] at this
        exact this
      have nlb : lb ≠ q := ne_of eqs hkq (fun z => nomatch z)
      have hbl := bsOf_len ex
      have hxr : ∀ r ∈ x.2, DayOk r := hok x (List.mem_of_getElem? ex)
      obtain ⟨kd, v2, v3, v4, v5, rfl, e2, e3, e4, e5, e6, e7⟩ := hh
      rw [hk1]
      dsimp only [gName, List.set_cons_zero, List.set_cons_succ, kV]
      have hql : qs.length = x.2.length := Paired.length rqs
      refine ⟨_, rfl, _, rfl, q, _, rfl, .inl ⟨kvs, Sum.inr x.1, .inr ⟨ob, e3⟩, rfl, hv.symm⟩, lb, rfl, ⟨_, SqL.of (e2 _ _ eqs nlb)⟩, for_list (K := K) (a := lb) (xs := qs.map V.ref) (fun i2 => KdS H q p ob kvs (bsOf (J.take i) ++ x.2.take i2)) ⟨kd, _, _, _, _, rfl, e2, e3, e4, e5, by rw [List.take_zero, List.append_nil]; exact e6, by rw [List.take_zero, List.append_nil]; exact e7⟩ (fun i2 σ H5 _ hh => ?_) (fun i2 xv σ H5 hi2 hh => ?_) fun σ H5 hh => ?_⟩
      · obtain ⟨kd, v2, v3, v4, v5, rfl, e2, e3, e4, e5, e6, e7⟩ := hh
        exact SqL.of (e2 _ _ eqs nlb)
      · clear e2 e3 e4 e5 e6 e7
        obtain ⟨kd, v2, v3, v4, v5, rfl, e2, e3, e4, e5, e6, e7⟩ := hh
        rw [List.getElem?_map] at hi2
        obtain ⟨t, ht, rfl⟩ := Option.map_eq_some_iff.mp hi2
        obtain ⟨r, hr, er⟩ := paired_get rqs ht
        have hrm := List.mem_of_getElem? hr
        have hi3 := (List.getElem?_eq_some_iff.mp hr).1
        have et := e2 _ _ er (ne_of er hkq (fun z => nomatch z))
        have hd := hxr r hrm
        refine ⟨t, _, rfl, SqT.of et, rfl, _, _, rfl, _, _, rfl, _, _, rfl, rfl, ?_⟩
        dsimp only [gName, List.set_cons_zero, List.set_cons_succ]
        have hbs : ∀ kd' : List (List Key × V), (∀ f l v, valV kd (kf f l) = some v → valV kd' (kf f l) = some v) → (valV kd' (kf r.2.1 r.2.2)).isSome = true → ∀ r' ∈ bsOf (J.take i) ++ x.2.take (i2 + 1), (valV kd' (kf r'.2.1 r'.2.2)).isSome = true := fun kd' hk hr' r' hr2 => by
          rw [List.take_add_one, hr, ← List.append_assoc] at hr2
          rcases List.mem_append.mp hr2 with z | z
          · obtain ⟨v, ev⟩ := Option.isSome_iff_exists.mp (e6 r' z)
            rw [hk _ _ _ ev]; rfl
          · have z : r' = r := List.mem_singleton.mp z
            rw [z]; exact hr'
        have hlen1 : (bsOf (J.take i) ++ x.2.take (i2 + 1)).length = (bsOf (J.take i) ++ x.2.take i2).length + 1 := by
          rw [List.length_append, List.length_append, List.length_take, List.length_take]; omega
        have hlen2 : (bsOf (J.take i) ++ x.2.take i2).length ≤ 100000 := by
          rw [List.length_append, List.length_take]; omega
        refine rd_if ⟨_, rfl, _, rfl, by show 2 ≤ sizeLine; decide, fun t1 nt1 => ?_⟩
        obtain ⟨g5, e8⟩ := laid (o := .tup ((kf r.2.1 r.2.2).map kV)) nt1
        have k5 : ∀ b o, H b = some o → b ≠ q → upd H5 t1 (.tup ((kf r.2.1 r.2.2).map kV)) b = some o := fun b o e hb => g5 _ _ (e2 _ _ e hb)
        have q5 := g5 _ _ e3
        have p5 := g5 _ _ e4
        have e8' : upd H5 t1 (.tup [V.int r.2.1, V.int r.2.2]) t1 = some (.tup ((kf r.2.1 r.2.2).map kV)) := e8
        change tVar 1 _ (upd H5 t1 (.tup ((kf r.2.1 r.2.2).map kV))) _
        generalize upd H5 t1 (.tup ((kf r.2.1 r.2.2).map kV)) = H6 at k5 q5 p5 e8 ⊢
        refine ⟨_, rfl, p, _, rfl, DGet.t (k := kf r.2.1 r.2.2) p5 e8, _, rfl, ?_⟩
        cases hvv : valV kd (kf r.2.1 r.2.2) with
        | some v => exact iteF (rd_next ⟨kd, _, _, _, _, rfl, k5, q5, p5, e5, hbs kd (fun _ _ _ e => e) (by rw [hvv]; rfl), by omega⟩)
        | none =>
          refine iteT ⟨_, rfl, _, rfl, _, _, rfl, hd.1, hd.2.1, hd.2.2, _, rfl, _, rfl, _, rfl, by show 2 ≤ sizeLine; decide, fun t2 nt2 => ?_⟩
          obtain ⟨g6, e9⟩ := laid (o := .tup ((kf r.2.1 r.2.2).map kV)) nt2
          have k6 : ∀ b o, H b = some o → b ≠ q → upd H6 t2 (.tup ((kf r.2.1 r.2.2).map kV)) b = some o := fun b o e hb => g6 _ _ (k5 _ _ e hb)
          have q6 := g6 _ _ q5
          have p6 := g6 _ _ p5
          refine ⟨p, _, rfl, DPut.t (kvs := kd) (k := kf r.2.1 r.2.2) p6 e9 (by rw [sizeLine_eq]; omega), putK kd (kf r.2.1 r.2.2) (.int (knot r.2.1 r.2.2)), _, _, _, _, rfl, fun b o e hb => ?_, ?_, upd_same, fun f l v hv2 => ?_, hbs _ (fun f l v ev => ?_) ?_, ?_⟩
          · rw [upd_ne (ne_of_none e np)]
            exact k6 _ _ e hb
          · rw [upd_ne (Ne.symm hqp)]
            exact q6
          · rw [valV_put] at hv2
            by_cases z : kf f l = kf r.2.1 r.2.2
            · rw [if_pos z] at hv2
              obtain ⟨z1, z2⟩ := kf_inj z
              rw [← Option.some.inj hv2, z1, z2]
            · rw [if_neg z] at hv2
              exact e5 _ _ _ hv2
          · rw [valV_put, if_neg (fun z => by rw [z, hvv] at ev; cases ev)]
            exact ev
          · rw [valV_put, if_pos rfl]; rfl
          · have := length_putK kd (kf r.2.1 r.2.2) (.int (knot r.2.1 r.2.2))
            omega
      · obtain ⟨kd, v2, v3, v4, v5, rfl, e2, e3, e4, e5, e6, e7⟩ := hh
        rw [List.length_map, hql, List.take_length, ← bsOf_take ex] at e6 e7
        exact ⟨kd, _, _, _, _, rfl, e2, e3, e4, e5, e6, e7⟩
    · obtain ⟨kd, v2, v3, v4, v5, rfl, e2, e3, e4, e5, e6, e7⟩ := hh
      refine ⟨⟨ob, e3⟩, ?_⟩
      dsimp only
      rw [show kvs.length = J.length from Paired.length hkp, List.take_length] at e6
      refine rd_ret ⟨_, rfl, hq p kd _ np (fun b o e => ?_) (by rw [upd_ne hqp]; exact e4) fun r hr => ?_⟩
      · by_cases z : b = q
        · rw [z, hkq] at e
          rw [z, upd_same]
          exact e
        · rw [upd_ne z]; exact e2 _ _ e z
      · obtain ⟨v, ev⟩ := Option.isSome_iff_exists.mp (e6 r hr)
        rw [ev, e5 _ _ _ ev]
end
end Mine
namespace Mine
open PySem L2
abbrev sThere : Stmt := top 39
structure ThA (H0 H : Hp) (td : Addr) (te : List (Key × V)) (ks : List Str) (F : Str → Int → Prop) (m : Nat) : Prop where
  et : H td = some (.dK te)
  nt : H0 td = none
  ex : ∀ k ∈ ks, ∃ d es, valV te (Sum.inr k) = some (.ref d) ∧ H d = some (.dK es) ∧ H0 d = none ∧ d ≠ td ∧ es.length ≤ m ∧ ∀ n, (valV es (Sum.inl n)).isSome = true ↔ F k n
  inj : ∀ k k' d, valV te (Sum.inr k) = some (.ref d) → valV te (Sum.inr k') = some (.ref d) → k = k'
theorem ThA.keep {H0 H H' : Hp} {td : Addr} {te : List (Key × V)} {ks : List Str} {F F' : Str → Int → Prop} {m m' : Nat} (h : ThA H0 H td te ks F m) (g : ∀ b x, H b = some (.dK x) → H0 b = none → H' b = some (.dK x)) (hf : ∀ k n, F k n ↔ F' k n) (hm : m ≤ m') : ThA H0 H' td te ks F' m' := by
  refine ⟨g _ _ h.et h.nt, h.nt, fun k hk => ?_, h.inj⟩
  obtain ⟨d, es, a1, a2, a3, a4, a5, a6⟩ := h.ex k hk
  exact ⟨d, es, a1, g _ _ a2 a3, a3, a4, by omega, fun n => (a6 n).trans (hf k n)⟩
theorem ThA.put {H0 H : Hp} {td d : Addr} {te es : List (Key × V)} {ks : List Str} {F : Str → Int → Prop} {m : Nat} {k : Str} {n : Int} {v : V} (h : ThA H0 H td te ks F m) (hd : valV te (Sum.inr k) = some (.ref d)) (he : H d = some (.dK es)) (hl : es.length ≤ m) (hn : d ≠ td) (hF : ∀ n, (valV es (Sum.inl n)).isSome = true ↔ F k n) : ThA H0 (upd H d (.dK (putK es (Sum.inl n) v))) td te ks (fun k' n' => F k' n' ∨ (k' = k ∧ n' = n)) (m + 1) := by
  refine ⟨by rw [upd_ne (Ne.symm hn)]; exact h.et, h.nt, fun k' hk => ?_, h.inj⟩
  obtain ⟨d', es', a1, a2, a3, a4, a5, a6⟩ := h.ex k' hk
  by_cases z : d' = d
  · subst z
    have ek := h.inj k' k d' a1 hd
    subst ek
    refine ⟨d', _, a1, upd_same, a3, a4, Nat.le_trans (length_putK es (Sum.inl n) v) (by omega), fun n' => ?_⟩
    rw [valV_put]
    by_cases zn : (Sum.inl n' : Key) = Sum.inl n
    · rw [if_pos zn]
      exact ⟨fun _ => .inr ⟨rfl, Sum.inl.inj zn⟩, fun _ => rfl⟩
    · rw [if_neg zn, hF]
      exact ⟨.inl, fun z => z.elim id fun z => absurd (congrArg Sum.inl z.2) zn⟩
  · refine ⟨d', es', a1, by rw [upd_ne z]; exact a2, a3, a4, by omega, fun n' => (a6 n').trans ⟨.inl, fun q => q.elim id fun q => ?_⟩⟩
    rw [q.1, hd] at a1
    exact absurd (V.ref.inj (Option.some.inj a1)).symm z
def FJ (bs : List RwB) (k : Str) (n : Int) : Prop := ∃ r ∈ bs, r.1 = k ∧ n ∈ Kn.way r.2.1 r.2.2
inductive ThK (H : Hp) (q kn td lk : Addr) (i : Nat) (σ : St) (H2 : Hp) : Prop
  | mk (te : List (Key × V)) (v3 v4 v5 v6 v7 : Option V) (h1 : σ = [some (.ref q), some (.ref kn), some (.ref td), v3, v4, v5, v6, v7]) (h2 : Grow H H2) (h3 : ThA H H2 td te (keys4.take i) (fun _ _ => False) 0) (h4 : te.length ≤ i) (h5 : H2 lk = some (.lst (keys4.map V.str))) (h6 : ∀ k d, valV te (Sum.inr k) = some (.ref d) → ∃ o, H2 d = some o) (h7 : ∀ k, (valV te (Sum.inr k)).isSome = true → k ∈ keys4.take i) : ThK H q kn td lk i σ H2
inductive ThI (H : Hp) (q kn td : Addr) (ob : Obj) (kvs te : List (Key × V)) (F : Str → Int → Prop) (m : Nat) (v3 : Option V) (σ : St) (H2 : Hp) : Prop
  | mk (v4 v5 v6 v7 : Option V) (h1 : σ = [some (.ref q), some (.ref kn), some (.ref td), v3, v4, v5, v6, v7]) (h2 : ∀ b o, H b = some o → b ≠ q → H2 b = some o) (h3 : H2 q = some (.frz ob (.dK kvs))) (h4 : ThA H H2 td te keys4 F m) : ThI H q kn td ob kvs te F m v3 σ H2
def spThere : Sp := fun vs H Q _ => ∃ (q kn : Addr) (kvs : List (Key × V)) (J : Ix) (kd : List (List Key × V)), vs = [.ref q, .ref kn] ∧ H q = some (.dK kvs) ∧ Paired (KpR H) kvs J ∧ (J.map (·.1)).Nodup ∧ (∀ x ∈ J, ∀ r ∈ x.2, DayOk r) ∧ KyJ J ∧ (bsOf J).length ≤ 100000 ∧ H kn = some (.dT kd) ∧ (∀ r ∈ bsOf J, valV kd (kf r.2.1 r.2.2) = some (.int (knot r.2.1 r.2.2))) ∧
  ∀ (td : Addr) (te : List (Key × V)) (H' : Hp), Grow H H' → ThA H H' td te keys4 (FJ (bsOf J)) (9 * (bsOf J).length) → Q (.ref td) H'
theorem keys4_nd : keys4.Nodup := by decide +kernel
section
variable {P : Program} {w : World} {K : PySem.W.Frag} {mg : Str → Option Value} {base : Heap}
theorem scThere : FnScope ["_law_kept", "_law_knots_here", "_law_there_here", "_law_key", "_law_owner", "_law_first", "_law_last", "_law_number"] ["_law_kept", "_law_knots_here"] (defScope sThere) := ⟨rfl, rfl, rfl, by decide +kernel, rfl, by decide +kernel, by decide +kernel⟩
theorem ok_there {f f1 f2 : Addr} {fd : FuncData} (F : Fun K "_law_there" "_law_there" sThere f fd) {fd1 : FuncData} (CK : Cal P w K mg base "_law_keys" 1 [] spKeysL f1 fd1) {fd2 : FuncData} (CA : Cal P w K mg base "_law_above" 2 ["_law_number"] spAbove f2 fd2) : FnOk P w K mg base CX0 3 f fd ["_law_kept", "_law_knots_here"] spThere := by
  refine F.ok (k := 2) scThere (fun vs H Q E h => ?_) (fun cdv A outer s H vs Q E hr h => ?_)
  · obtain ⟨q, kn, kvs, J, kd, rfl, _⟩ := h
    rfl
  · obtain ⟨q, kn, kvs, J, kd, rfl, hkq, hkp, hnd, hok, hky, hlen, hkn, hkd, hq⟩ := h
    have hu := hu_of hr
    refine ⟨_, (pss_cons (ps_set (i := 2) scThere.nd rfl (Or.inl rfl) pe_dnewK)
      (pss_cons (ps_for PassesOwn.never rfl (pi_list (pe_call0 CK.ok (hr.mono (by decide)) rfl CK.nm CK.kp CK.bd .nil pass0)) (pg_name (i := 3) scThere.nd rfl (Or.inl rfl))
      (pss_one (ps_dput hu (pv 2) (pv 3) pe_dnewK rfl)))
      (pss_cons (ps_frz (ps_for PassesOwn.never rfl (pi_dict (pv 0)) (pg_name (i := 4) scThere.nd rfl (Or.inl rfl))
      (pss_one (ps_for PassesOwn.never rfl (pi_list (pe_dget hu (pv 0) (pv 4) (fun _ _ => rfl))) (pg_tup rfl (pgs_cons (pg_name (i := 3) scThere.nd rfl (Or.inl rfl)) (pgs_cons (pg_name (i := 5) scThere.nd rfl (Or.inl rfl)) (pgs_cons (pg_name (i := 6) scThere.nd rfl (Or.inl rfl)) pgs_nil))))
      (pss_one (ps_for PassesOwn.never rfl (pi_list (pe_call CA.ok (hr.mono (by decide)) rfl CA.nm CA.kp CA.bd .nil pass0 (pa_kons (pe_dget hu (pv 1) (pe_tup (pa_kons (pv 5) (pa_kons (pv 6) pa_nil))) (fun _ _ => rfl)) pa_nil))) (pg_name (i := 7) scThere.nd rfl (Or.inl rfl))
      (pss_one (ps_dput hu (pe_dget hu (pv 2) (pv 3) (fun _ _ => rfl)) (pv 7) pe_bl rfl))))))))
      (pss_one (ps_ret (pv 2)))))), ?_⟩
    refine rd_seq (rd_asg fun td ntd => ?_)
    obtain ⟨g1, e1⟩ := laid (o := .dK []) ntd
    dsimp only [gName]
    generalize upd H td _ = H3 at g1 e1 ⊢
    refine rd_seq ⟨rfl, fun lk nlk => ?_⟩
    obtain ⟨g2, e2⟩ := laid (o := .lst (keys4.map V.str)) nlk
    have e1 := g2 _ _ e1
    have g12 := g1.trans g2
    generalize upd H3 lk _ = H4 at g2 e2 e1 g12 ⊢
    refine ⟨lk, rfl, ⟨_, SqL.of e2⟩, for_list (K := K) (a := lk) (xs := keys4.map V.str) (ThK H q kn td lk) ⟨[], none, none, none, none, none, rfl, g12, ⟨e1, ntd, (fun k z => nomatch z), (fun k k' d z => nomatch z)⟩, Nat.le_refl _, e2, (fun k d z => nomatch z), (fun k z => nomatch z)⟩ (fun i σ H5 _ hh => ?_) (fun i x σ H5 hi hh => ?_) fun σ H5 hh => ?_⟩
    · obtain ⟨te, v3, v4, v5, v6, v7, rfl, h2, h3, h4, h5, h6, h7⟩ := hh
      exact SqL.of h5
    · obtain ⟨te, v3, v4, v5, v6, v7, rfl, h2, h3, h4, h5, h6, h7⟩ := hh
      rw [List.getElem?_map] at hi
      obtain ⟨k, hk, rfl⟩ := Option.map_eq_some_iff.mp hi
      have hi4 : i < 4 := (List.getElem?_eq_some_iff.mp hk).1
      dsimp only [gName, List.set_cons_zero, List.set_cons_succ]
      refine fun d nd => ?_
      obtain ⟨g6, e6⟩ := laid (o := .dK []) nd
      have ntd2 : td ≠ d := ne_of_none h3.et nd
      have h06 : H d = none := by
        cases e : H d with
        | none => rfl
        | some o => rw [h2 _ _ e] at nd; cases nd
      refine ⟨_, rfl, _, rfl, td, _, rfl, DPut.k (k := Sum.inr k) (g6 _ _ h3.et) (by rw [sizeLine_eq]; omega), ?_⟩
      have knew : k ∉ keys4.take i := fun z => by
        obtain ⟨j, hj⟩ := List.getElem?_of_mem z
        rw [List.getElem?_take] at hj
        split at hj
        · rename_i hji
          have := (List.getElem?_inj (by show j < 4; omega) keys4_nd).mp (hj.trans hk.symm)
          omega
        · cases hj
      have kk6 : ∀ b o, H5 b = some o → b ≠ td → upd (upd H5 d (.dK [])) td (.dK (putK te (Sum.inr k) (.ref d))) b = some o := fun b o e hb => by rw [upd_ne hb]; exact g6 _ _ e
      have hd6 : upd (upd H5 d (.dK [])) td (.dK (putK te (Sum.inr k) (.ref d))) d = some (.dK []) := by rw [upd_ne (Ne.symm ntd2)]; exact e6
      refine ⟨putK te (Sum.inr k) (.ref d), _, _, _, _, _, rfl, fun b o e => kk6 _ _ (h2 _ _ e) (ne_of_none e ntd), ⟨upd_same, ntd, fun k' hk' => ?_, fun k1 k2 d1 a1 a2 => ?_⟩, Nat.le_trans (length_putK te (Sum.inr k) (.ref d)) (by omega), kk6 _ _ h5 (ne_of h5 h3.et (fun z => nomatch z)), fun k' d' a => ?_, fun k' a => ?_⟩
      · by_cases z : k' = k
        · subst z
          exact ⟨d, [], by rw [valV_put, if_pos rfl], hd6, h06, Ne.symm ntd2, Nat.le_refl _, fun n => ⟨(fun z => nomatch z), False.elim⟩⟩
        · have hk2 : k' ∈ keys4.take i := by
            rw [List.take_add_one, hk] at hk'
            rcases List.mem_append.mp hk' with a | a
            · exact a
            · exact absurd (List.mem_singleton.mp a) z
          obtain ⟨d', es, b1, b2, b3, b4, b5, b6⟩ := h3.ex k' hk2
          exact ⟨d', es, by rw [valV_put, if_neg (fun e => z (Sum.inr.inj e))]; exact b1, kk6 _ _ b2 b4, b3, b4, b5, b6⟩
      · rw [valV_put] at a1 a2
        by_cases z1 : (Sum.inr k1 : Key) = Sum.inr k
        · by_cases z2 : (Sum.inr k2 : Key) = Sum.inr k
          · rw [Sum.inr.inj z1, Sum.inr.inj z2]
          · rw [if_pos z1] at a1
            rw [if_neg z2] at a2
            obtain ⟨o, ho⟩ := h6 k2 d1 a2
            rw [← V.ref.inj (Option.some.inj a1), nd] at ho
            cases ho
        · rw [if_neg z1] at a1
          by_cases z2 : (Sum.inr k2 : Key) = Sum.inr k
          · rw [if_pos z2] at a2
            obtain ⟨o, ho⟩ := h6 k1 d1 a1
            rw [← V.ref.inj (Option.some.inj a2), nd] at ho
            cases ho
          · rw [if_neg z2] at a2
            exact h3.inj k1 k2 d1 a1 a2
      · rw [valV_put] at a
        by_cases z : (Sum.inr k' : Key) = Sum.inr k
        · rw [if_pos z] at a
          rw [← V.ref.inj (Option.some.inj a)]
          exact ⟨_, hd6⟩
        · rw [if_neg z] at a
          obtain ⟨o, ho⟩ := h6 k' d' a
          by_cases zt : d' = td
          · rw [zt]; exact ⟨_, upd_same⟩
          · exact ⟨o, kk6 _ _ ho zt⟩
      · rw [valV_put] at a
        rw [List.take_add_one, hk]
        by_cases z : (Sum.inr k' : Key) = Sum.inr k
        · rw [Sum.inr.inj z]
          exact List.mem_append_right _ (List.mem_singleton.mpr rfl)
        · rw [if_neg z] at a
          exact List.mem_append_left _ (h7 k' a)
    · obtain ⟨te, v3, v4, v5, v6, v7, rfl, h2, h3, h4, h5, h6, h7⟩ := hh
      dsimp only
      rw [List.length_map, List.take_length] at h3
      have kq5 := h2 _ _ hkq
      have kn5 : (kvs.map (·.1)).Nodup := by rw [kp_keys hkp]; exact List.pairwise_map.mpr (List.Pairwise.imp (fun hne z => hne (Sum.inr.inj z)) hnd)
      have hq2 : ∀ b, H b = none → b ≠ q := fun b e z => by rw [z, hkq] at e; cases e
      have nkn : kn ≠ q := ne_of hkn hkq (fun z => nomatch z)
      refine rd_seq ⟨q, kvs, kq5, fun ob => ⟨_, rfl, q, ob, kvs, rfl, upd_same, for_dict (fun i σ H' => ∃ v3, ThI H q kn td ob kvs te (FJ (bsOf (J.take i))) (9 * (bsOf (J.take i)).length) v3 σ H') ⟨_, _, _, _, _, rfl, fun b o e hb => by rw [upd_ne hb]; exact h2 _ _ e, upd_same, h3.keep (fun b x e n => by rw [upd_ne (hq2 b n)]; exact e) (fun k n => ⟨False.elim, fun ⟨r, z, _⟩ => nomatch z⟩) (Nat.zero_le _)⟩ (fun i σ H6 _ hh => ?_) (fun i kv σ H6 hi hh => ?_) fun σ H6 hh => ?_⟩⟩
      · obtain ⟨v3, v4, v5, v6, v7, rfl, a1, a2, a3⟩ := hh
        exact a2
      · obtain ⟨x, ex, hk1, lb, hk2, ⟨qs, eqs, rqs⟩⟩ := paired_get hkp hi
        have hv : valV kvs (Sum.inr x.1) = some (.ref lb) := by
          have := valV_mem kn5 kv (List.mem_of_getElem? hi)
          rw [hk1, hk2] at this
          exact this
        have nlb : lb ≠ q := ne_of eqs hkq (fun z => nomatch z)
        have hbl := bsOf_len ex
        have hxm := List.mem_of_getElem? ex
        obtain ⟨v3, v4, v5, v6, v7, rfl, a1, a2, a3⟩ := hh
        rw [hk1]
        dsimp only [gName, List.set_cons_zero, List.set_cons_succ, kV]
        have hql : qs.length = x.2.length := Paired.length rqs
        refine ⟨_, rfl, _, rfl, q, _, rfl, .inl ⟨kvs, Sum.inr x.1, .inr ⟨ob, a2⟩, rfl, hv.symm⟩, lb, rfl, ⟨_, SqL.of (a1 _ _ eqs nlb)⟩, for_list (K := K) (a := lb) (xs := qs.map V.ref) (fun i2 σ H' => ∃ v3, ThI H q kn td ob kvs te (FJ (bsOf (J.take i) ++ x.2.take i2)) (9 * (bsOf (J.take i) ++ x.2.take i2).length) v3 σ H') ⟨_, _, _, _, _, rfl, a1, a2, by rw [List.take_zero, List.append_nil]; exact a3⟩ (fun i2 σ H7 _ hh => ?_) (fun i2 xv σ H7 hi2 hh => ?_) fun σ H7 hh => ?_⟩
        · obtain ⟨v3, v4, v5, v6, v7, rfl, a1, a2, a3⟩ := hh
          exact SqL.of (a1 _ _ eqs nlb)
        · clear a1 a2 a3
          obtain ⟨v3, v4, v5, v6, v7, rfl, a1, a2, a3⟩ := hh
          rw [List.getElem?_map] at hi2
          obtain ⟨t, ht, rfl⟩ := Option.map_eq_some_iff.mp hi2
          obtain ⟨r, hr, er⟩ := paired_get rqs ht
          have hrm := List.mem_of_getElem? hr
          have hi3 := (List.getElem?_eq_some_iff.mp hr).1
          have et := a1 _ _ er (ne_of er hkq (fun z => nomatch z))
          have hd := hok x hxm r hrm
          have hrk := ((hky x hxm).2.2 r hrm).2
          have hkv := hkd r (mem_bsOf hxm hrm)
          refine ⟨t, _, rfl, SqT.of et, rfl, _, _, rfl, _, _, rfl, _, _, rfl, rfl, ?_⟩
          dsimp only [gName, List.set_cons_zero, List.set_cons_succ]
          have hlen2 : (bsOf (J.take i) ++ x.2.take i2).length < 100000 := by
            rw [List.length_append, List.length_take]; omega
          have eb : bsOf (J.take i) ++ x.2.take (i2 + 1) = (bsOf (J.take i) ++ x.2.take i2) ++ [r] := by
            rw [List.take_add_one, hr, List.append_assoc]; rfl
          rw [eb]
          generalize bsOf (J.take i) ++ x.2.take i2 = bs at a3 hlen2 ⊢
          refine ⟨_, rfl, _, rfl, _, rfl, by show 2 ≤ sizeLine; decide, fun t1 nt1 => ?_⟩
          obtain ⟨g8, e8⟩ := laid (o := .tup ((kf r.2.1 r.2.2).map kV)) nt1
          change dgetR _ _ (upd H7 t1 (.tup ((kf r.2.1 r.2.2).map kV))) _
          generalize upd H7 t1 (.tup ((kf r.2.1 r.2.2).map kV)) = H8 at g8 e8 ⊢
          have gk : DGet H8 kn (.ref t1) (some (.int (knot r.2.1 r.2.2))) := by
            have z := DGet.t (k := kf r.2.1 r.2.2) (g8 _ _ (a1 _ _ hkn nkn)) e8
            rw [hkv] at z
            exact z
          obtain ⟨jr, road, hR, hroad⟩ := knot_road hd.1 hd.2.1 hd.2.2
          have hr9 := hR.len
          refine ⟨kn, _, rfl, gk, _, jr, road, rfl, hR, fun lp nlp => ?_⟩
          obtain ⟨g9, e9⟩ := laid (o := .lst (road.map V.int)) nlp
          have b1 : ∀ b o, H b = some o → b ≠ q → upd H8 lp (.lst (road.map V.int)) b = some o := fun b o e hb => g9 _ _ (g8 _ _ (a1 _ _ e hb))
          have b2 := g9 _ _ (g8 _ _ a2)
          have b3 : ThA H (upd H8 lp (.lst (road.map V.int))) td te keys4 (FJ bs) (9 * bs.length) := a3.keep (fun b x e _ => g9 _ _ (g8 _ _ e)) (fun _ _ => Iff.rfl) (Nat.le_refl _)
          generalize upd H8 lp _ = H9 at b1 b2 b3 e9 ⊢
          clear g9 nlp g8 e8 gk a1 a2 a3
          refine ⟨lp, rfl, ⟨_, SqL.of e9⟩, for_list (K := K) (a := lp) (xs := road.map V.int) (fun i3 σ H' => ThI H q kn td ob kvs te (fun k n => FJ bs k n ∨ (k = r.1 ∧ n ∈ road.take i3)) (9 * bs.length + i3) (some (.str r.1)) σ H' ∧ H' lp = some (.lst (road.map V.int))) ⟨⟨_, _, _, _, rfl, b1, b2, b3.keep (fun b x e _ => e) (fun k n => ⟨.inl, fun z => z.elim id fun z => nomatch z.2⟩) (Nat.le_refl _)⟩, e9⟩ (fun i3 σ Ha _ hh => ?_) (fun i3 nv σ Ha hi3 hh => ?_) fun σ Ha hh => ?_⟩
          · exact SqL.of hh.2
          · obtain ⟨⟨v4, v5, v6, v7, rfl, c1, c2, c3⟩, c4⟩ := hh
            rw [List.getElem?_map] at hi3
            obtain ⟨n, hn, rfl⟩ := Option.map_eq_some_iff.mp hi3
            have hi9 := (List.getElem?_eq_some_iff.mp hn).1
            dsimp only [gName, List.set_cons_zero, List.set_cons_succ]
            obtain ⟨d, es, d1, d2, d3, d4, d5, d6⟩ := c3.ex r.1 hrk
            have gt : DGet Ha td (.str r.1) (some (.ref d)) := by rw [← d1]; exact DGet.k (k := Sum.inr r.1) c3.et
            refine ⟨_, rfl, _, rfl, td, _, rfl, gt, _, rfl, d, _, rfl, DPut.k (k := Sum.inl n) d2 (by rw [sizeLine_eq]; omega), ⟨_, _, _, _, rfl, fun b o e hb => ?_, ?_, (c3.put d1 d2 d5 d4 d6).keep (fun b x e _ => e) (fun k n' => ?_) (by omega)⟩, ?_⟩
            · rw [upd_ne (ne_of_none e d3)]; exact c1 _ _ e hb
            · rw [upd_ne (Ne.symm (hq2 d d3))]; exact c2
            · rw [List.take_add_one, hn]
              show (_ ∨ _) ↔ _
              constructor
              · rintro ((z | z) | z)
                · exact .inl z
                · exact .inr ⟨z.1, List.mem_append_left _ z.2⟩
                · exact .inr ⟨z.1, List.mem_append_right _ (List.mem_singleton.mpr z.2)⟩
              · rintro (z | ⟨z1, z2⟩)
                · exact .inl (.inl z)
                · rcases List.mem_append.mp z2 with z2 | z2
                  · exact .inl (.inr ⟨z1, z2⟩)
                  · exact .inr ⟨z1, List.mem_singleton.mp z2⟩
            · rw [upd_ne (ne_of c4 d2 (fun z => nomatch z))]; exact c4
          · obtain ⟨⟨v4, v5, v6, v7, rfl, c1, c2, c3⟩, c4⟩ := hh
            rw [List.length_map, List.take_length] at c3
            refine ⟨_, _, _, _, _, rfl, c1, c2, c3.keep (fun b x e _ => e) (fun k n => ?_) (by rw [List.length_append, List.length_singleton]; omega)⟩
            constructor
            · rintro (⟨r', z1, z2⟩ | ⟨z1, z2⟩)
              · exact ⟨r', List.mem_append_left _ z1, z2⟩
              · exact ⟨r, List.mem_append_right _ (List.mem_singleton.mpr rfl), z1.symm, (hroad n).mp z2⟩
            · rintro ⟨r', z1, z2, z3⟩
              rcases List.mem_append.mp z1 with z1 | z1
              · exact .inl ⟨r', z1, z2, z3⟩
              · have z1 := List.mem_singleton.mp z1
                subst z1
                exact .inr ⟨z2.symm, (hroad n).mpr z3⟩
        · obtain ⟨v3, v4, v5, v6, v7, rfl, c1, c2, c3⟩ := hh
          rw [List.length_map, hql, List.take_length, ← bsOf_take ex] at c3
          exact ⟨_, _, _, _, _, rfl, c1, c2, c3⟩
      · obtain ⟨v3, v4, v5, v6, v7, rfl, c1, c2, c3⟩ := hh
        refine ⟨⟨ob, c2⟩, ?_⟩
        dsimp only
        rw [show kvs.length = J.length from Paired.length hkp, List.take_length] at c3
        refine rd_ret ⟨_, rfl, hq td te _ (fun b o e => ?_) (c3.keep (fun b x e n => by rw [upd_ne (hq2 b n)]; exact e) (fun _ _ => Iff.rfl) (Nat.le_refl _))⟩
        by_cases z : b = q
        · rw [z, hkq] at e
          rw [z, upd_same]
          exact e
        · rw [upd_ne z]; exact c1 _ _ e z
end
end Mine
namespace Mine
open PySem L2
abbrev sRight : Stmt := top 41
def meetR (k : Str) (f l : Int) (r : RwB) : Bool := decide (r.1 = k) && (decide (r.2.1 ≤ l) && decide (f ≤ r.2.2))
theorem meetR_iff {k : Str} {f l : Int} {r : RwB} : meetR k f l r = true ↔ r.1 = k ∧ r.2.1 ≤ l ∧ f ≤ r.2.2 := by
  unfold meetR
  rw [Bool.and_eq_true, Bool.and_eq_true, decide_eq_true_iff, decide_eq_true_iff, decide_eq_true_iff]
theorem compB_rows {K : PySem.W.Frag} {la : Addr} {ps : List Addr} {rs : List RwB} {sub : List Nat} {tt : TT} {σ : St} {Q : VK} {H : Hp} (c : RwB → Bool) (hn : ps.length < sizeLine) (ha : H la = some (.lst (ps.map V.ref))) (hr : RowB H ps rs)
    (htt : ∀ (p : Addr) (r : RwB) (H2 : Hp) (R : Bool → Hp → Prop), r ∈ rs → Grow H H2 → H2 p = some (.tup (rowB r)) → (∀ H3, Grow H2 H3 → R (c r) H3) → tt (some (.ref p) :: subσ sub σ) H2 R)
    (hq : ∀ (D : Addr) (qs : List Addr) (H' : Hp), H D = none → Grow H H' → H' D = some (.lst (qs.map V.ref)) → RowB H' qs (rs.filter c) → Q (.ref D) H') : CompB (Itl K la) sub tt (tVar 0) σ Q H := by
  intro D nD
  have nl : la ≠ D := ne_of_none ha nD
  refine comp_list (K := K) (a := la) (xs := ps.map V.ref) (sub := sub) (tt := tt) (te := tVar 0) (Q := Q) (σ := σ) (fun i ys H2 => ∃ qs : List Addr, ys = qs.map V.ref ∧ qs.length ≤ i ∧ RowB H2 qs ((rs.take i).filter c) ∧ Grow H H2 ∧ H2 D = some (.lst ys)) ⟨[], rfl, Nat.le_refl _, by rw [List.take_zero]; exact .nil, (laid nD).1, upd_same⟩ (fun i ys H2 _ hh => ?_) (fun i x ys H2 hi hh => ?_) fun ys H2 hh => ?_
  · obtain ⟨qs, rfl, e1, e2, e3, e4⟩ := hh
    exact SqL.of (e3 _ _ ha)
  · obtain ⟨qs, rfl, e1, e2, e3, e4⟩ := hh
    rw [List.getElem?_map] at hi
    obtain ⟨p, hp, rfl⟩ := Option.map_eq_some_iff.mp hi
    obtain ⟨r, hr', er⟩ := paired_get hr hp
    have hlt : i < ps.length := (List.getElem?_eq_some_iff.mp hp).1
    refine htt p r H2 _ (List.mem_of_getElem? hr') e3 (e3 _ _ er) fun H3 g3 => ?_
    have et : rs.take (i + 1) = rs.take i ++ [r] := by rw [List.take_add_one, hr']; rfl
    cases hc : c r with
    | true =>
      have k : ∀ b x, H3 b = some (.tup x) → upd H3 D (.lst (qs.map V.ref ++ [V.ref p])) b = some (.tup x) := fun b x e => by rw [upd_ne (ne_of e (g3 _ _ e4) (fun z => nomatch z))]; exact e
      refine iteT ⟨_, rfl, g3 _ _ e4, by rw [List.length_map]; omega, qs ++ [p], by rw [List.map_append]; rfl, by rw [List.length_append, List.length_singleton]; omega, ?_, fun b o e => by rw [upd_ne (ne_of_none e nD)]; exact g3 _ _ (e3 _ _ e), upd_same⟩
      rw [et, List.filter_append, List.filter_cons_of_pos hc]
      exact paired_snoc (Paired.mapP e2 fun _ _ e => k _ _ (g3 _ _ e)) (k _ _ (g3 _ _ (e3 _ _ er)))
    | false =>
      refine iteF ⟨qs, rfl, by omega, ?_, e3.trans g3, g3 _ _ e4⟩
      rw [et, List.filter_append, List.filter_cons_of_neg (by rw [hc]; decide)]
      show RowB H3 qs (_ ++ [])
      rw [List.append_nil]
      exact Paired.mapP e2 fun _ _ e => g3 _ _ e
  · obtain ⟨qs, rfl, e1, e2, e3, e4⟩ := hh
    rw [List.length_map, Paired.length hr, List.take_length] at e2
    exact hq D qs H2 nD e3 e4 e2
theorem alls_snd (I : Ix) : (alls I).map (·.2) = bsOf I := by
  induction I with
  | nil => rfl
  | cons x I ih =>
    have e : alls (x :: I) = (x.2.map fun b => (x.1, b)) ++ alls I := rfl
    rw [e, List.map_append, ih, List.map_map]
    show (x.2.map id) ++ _ = _
    rw [List.map_id]
    rfl
theorem nd_of {α β : Type} {f : α → β} {l : List α} (h : (l.map f).Nodup) : l.Nodup := List.Pairwise.of_map f (fun a b h e => h (congrArg f e)) h
theorem ix_perm {I J : Ix} (ni : (I.map (·.1)).Nodup) (nj : (J.map (·.1)).Nodup) (h : ∀ o, look I o = look J o) : I.Perm J :=
  (List.perm_ext_iff_of_nodup (nd_of ni) (nd_of nj)).mpr fun x =>
    ⟨fun hx => look_mem ((h x.1).symm.trans (mem_look ni hx)), fun hx => look_mem ((h x.1).trans (mem_look nj hx))⟩
theorem alls_perm {I J : Ix} (h : I.Perm J) : (alls I).Perm (alls J) := h.flatMap_right _
theorem fj_wt {I J : Ix} (h : I.Perm J) (k : Str) (n : Int) : FJ (bsOf J) k n ↔ 0 < wt (alls I) k n := by
  rw [wt_pos]
  constructor
  · rintro ⟨r, hr, z1, z2⟩
    rw [← alls_snd] at hr
    obtain ⟨y, hy, rfl⟩ := List.mem_map.mp hr
    exact ⟨y, (alls_perm h).mem_iff.mpr hy, z1, z2⟩
  · rintro ⟨y, hy, z1, z2⟩
    refine ⟨y.2, ?_, z1, z2⟩
    rw [← alls_snd]
    exact List.mem_map.mpr ⟨y, (alls_perm h).mem_iff.mp hy, rfl⟩
theorem meet_len {I J : Ix} (h : I.Perm J) (k : Str) (f l : Int) : ((alls I).filter fun x => decide (x.2.1 = k ∧ x.2.2.1 ≤ l ∧ f ≤ x.2.2.2)).length = ((bsOf J).filter (meetR k f l)).length := by
  rw [((alls_perm h).filter _).length_eq, ← alls_snd, List.filter_map, List.length_map]
  congr 1
  refine List.filter_congr fun x _ => ?_
  rw [Bool.eq_iff_iff, decide_eq_true_iff]
  exact meetR_iff.symm
theorem rd_opCB {r : R2} {rr : List V → Hp → VK → Prop} {ta tb : TE} {rest : TA} {σ : St} {H : Hp} {Q : VK} (h : ta σ H fun x H1 => rest σ H1 fun xs H2 => rr (x :: xs) H2 fun v H3 => tb σ H3 fun y H4 => r v y H4 Q) : tOp r (tCB rr (tCons ta rest)) tb σ H Q := h
def spRight (C : Addr) (K : PySem.W.Frag) : Sp := fun vs H Q _ => ∃ (p q kn d : Addr) (a : IA) (M : Addr → Prop) (I J : Ix) (N : Nat) (kvs es : List (Key × V)) (kd : List (List Key × V)) (k : Str) (f l : Int), vs = [.ref p, .ref q, .ref kn, .ref d, .str k, .int f, .int l] ∧ Kept C H p q a M I J N kvs ∧ H kn = some (.dT kd) ∧ (∀ r ∈ bsOf J, valV kd (kf r.2.1 r.2.2) = some (.int (knot r.2.1 r.2.2))) ∧ H d = some (.dK es) ∧ (∀ n, (valV es (Sum.inl n)).isSome = true ↔ FJ (bsOf J) k n) ∧ (∀ x ∈ J, ∀ r ∈ x.2, DayOk r) ∧ (bsOf J).length ≤ 100000 ∧ (∀ H, NameV K H (.str k) true) ∧ 0 ≤ f ∧ f ≤ l ∧ l < 400 ∧ ∀ H', Grow H H' → Q (.bl true) H'
inductive RiK (H1 : Hp) (p q kn d lk : Addr) (k : Str) (f l : Int) (ob : Obj) (kvs : List (Key × V)) (bs : List RwB) (σ : St) (H2 : Hp) : Prop
  | mk (lb : Addr) (qs : List Addr) (v9 v10 : Option V) (h1 : σ = [some (.ref p), some (.ref q), some (.ref kn), some (.ref d), some (.str k), some (.int f), some (.int l), some (.ref lk), some (.ref lb), v9, v10]) (h2 : ∀ b o, H1 b = some o → b ≠ q → H2 b = some o) (h3 : H2 q = some (.frz ob (.dK kvs))) (h4 : H2 lb = some (.lst (qs.map V.ref))) (h5 : RowB H2 qs (bs.filter (meetR k f l))) : RiK H1 p q kn d lk k f l ob kvs bs σ H2
section
variable {P : Program} {w : World} {K : PySem.W.Frag} {mg : Str → Option Value} {base : Heap}
theorem scRight : FnScope ["_law_index", "_law_kept", "_law_knots_here", "_law_there_here", "_law_key", "_law_first", "_law_last", "_law_looked_here", "_law_boxes_here", "_law_owner", "_law_found"] ["_law_index", "_law_kept", "_law_knots_here", "_law_there_here", "_law_key", "_law_first", "_law_last"] (defScope sRight) := ⟨rfl, rfl, rfl, by decide +kernel, rfl, by decide +kernel, by decide +kernel⟩
theorem ok_right {f f1 f2 C : Addr} {fd : FuncData} (F : Fun K "_law_right" "_law_right" sRight f fd) (N : Free mg) {fd1 : FuncData} (CL : Cal P w K mg base "_law_looked" 2 ["_law_there_here", "_law_first", "_law_last"] spLook3 f1 fd1) {fd2 : FuncData} (MM : MC P w K mg base C "meeting" 4 ["self", "key", "first", "last"] [] [] (spMeeting C K) f2 fd2) : FnOk P w K mg base CX0 5 f fd ["_law_index", "_law_kept", "_law_knots_here", "_law_there_here", "_law_key", "_law_first", "_law_last"] (spRight C K) := by
  refine F.ok (k := 4) scRight (fun vs H Q E h => ?_) (fun cdv A outer s H vs Q E hr h => ?_)
  · obtain ⟨p, q, kn, d, a, M, I, J, n, kvs, es, kd, k, fi, la, rfl, _⟩ := h
    rfl
  · obtain ⟨p, q, kn, d, a, M, I, J, n, kvs, es, kd, k, fi, la, rfl, h, hkn, hkd, hd, hes, hok, hbl, hnm, h0, h1, h2, hq⟩ := h
    have hu := hu_of hr
    refine ⟨_, (pss_cons (ps_set (i := 7) scRight.nd rfl (Or.inr rfl) (pe_call CL.ok (hr.mono (by decide)) rfl CL.nm CL.kp CL.bd .nil pass0 (pa_kons (pv 3) (pa_kons (pv 5) (pa_kons (pv 6) pa_nil)))))
      (pss_cons (ps_set (i := 8) scRight.nd rfl (Or.inl rfl) (pe_lst pa_nil))
      (pss_cons (ps_frz (ps_for PassesOwn.never rfl (pi_dict (pv 1)) (pg_name (i := 9) scRight.nd rfl (Or.inl rfl))
      (pss_one (ps_set (i := 8) scRight.nd rfl (Or.inl rfl) (pe_op op_cat (pv 8) (pe_of (pec_compN rfl (pi_list (pe_dget hu (pv 1) (pv 9) (fun _ _ => rfl))) rfl rfl (by show ∀ p ∈ _, CapN [Str.ofString "_law_last", Str.ofString "_law_key", Str.ofString "_law_first"] p; decide) (by decide) rfl (by show ([Str.ofString "_law_box", Str.ofString "_law_last", Str.ofString "_law_key", Str.ofString "_law_first"] : List Str).Nodup; decide) (.cons (i := 6) rfl (.inr (.inl rfl)) (by show (some NameKind.cell) ≠ some NameKind.local; decide) (.inl rfl) rfl (.cons (i := 4) rfl (.inr (.inl rfl)) (by show (some NameKind.cell) ≠ some NameKind.local; decide) (.inl rfl) rfl (.cons (i := 5) rfl (.inr (.inl rfl)) (by show (some NameKind.cell) ≠ some NameKind.local; decide) (.inl rfl) rfl .nil))) (fun C fp s H => (pts_one (PW.pt (pw_and (pt_cmpR op_eq (pe_ix (r := rIxT K) ix_tup (pv 0) pe_int (fun _ _ => rfl)) (pv 2) (nomark _)) (pw_and (pt_cmpR op_le (pe_ix (r := rIxT K) ix_tup (pv 0) pe_int (fun _ _ => rfl)) (pv 1) (nomark _)) (pw_and1 (pt_cmpR op_le (pv 3) (pe_ix (r := rIxT K) ix_tup (pv 0) pe_int (fun _ _ => rfl)) (nomark _)))))))) (fun C fp s H => (pv 0)))))))))
      (pss_cons (ps_set (i := 10) scRight.nd rfl (Or.inl rfl) (pe_ix ix_tup (pe_meth (pv 0) MM.cl MM.mt MM.ok (hr.mono (by decide)) MM.bd MM.dv pass0 (pa_kons (pv 4) (pa_kons (pv 5) (pa_kons (pv 6) pa_nil)))) pe_int (fun _ _ => rfl)))
      (pss_cons (ps_if (PW.pt (pw_or (pt_cmpR op_ne (pv 10) (pe_callB call_len_seq (by rfl) N.len PySem.boot_len (pa_kons (pv 7) pa_nil)) (nomark _)) (pw_or1 (pt_cmpR op_gt (pv 10) (pe_op op_add pe_int (pe_op op_mul pe_int (pe_callB call_len_seq (by rfl) N.len PySem.boot_len (pa_kons (pv 8) pa_nil)))) (nomark _))))) (pss_one (ps_ret pe_bl)) pss_nil)
      (pss_one (ps_ret (pe_cmpR op_eq (pe_callB call_len_seq (by rfl) N.len PySem.boot_len (pa_kons (pe_of (pec_compN rfl (pi_list (pv 8)) rfl rfl (by show ∀ p ∈ _, CapN [Str.ofString "_law_looked_here", Str.ofString "_law_knots_here"] p; decide) (by decide) rfl (by show ([Str.ofString "_law_box", Str.ofString "_law_looked_here", Str.ofString "_law_knots_here"] : List Str).Nodup; decide) (.cons (i := 7) rfl (.inr (.inl rfl)) (by show (some NameKind.cell) ≠ some NameKind.local; decide) (.inl rfl) rfl (.cons (i := 2) rfl (.inr (.inl rfl)) (by show (some NameKind.cell) ≠ some NameKind.local; decide) (.inl rfl) rfl .nil)) (fun C fp s H => (pts_one (pt_cmpR (r := rIn K true) op_notIn_seq (pe_dget hu (pv 2) (pe_tup (pa_kons (pe_ix (r := rIxT K) ix_tup (pv 0) pe_int (fun _ _ => rfl)) (pa_kons (pe_ix (r := rIxT K) ix_tup (pv 0) pe_int (fun _ _ => rfl)) pa_nil))) (fun _ _ => rfl)) (pv 1) (by with_unfolding_all rfl)))) (fun C fp s H => (pv 0)))) pa_nil)) pe_int (nomark _))))))))), ?_⟩
    have hp := ix_perm h.ix.nd h.nd h.eq
    have hT : ∀ n, (valV es (Sum.inl n)).isSome = decide (0 < wt (alls I) k n) := fun n => by
      rw [Bool.eq_iff_iff, decide_eq_true_iff, hes, fj_wt hp]
    refine rd_seq (rd_asg ⟨_, rfl, _, rfl, _, rfl, d, es, fi, la, fun n => decide (0 < wt (alls I) k n), rfl, hd, hT, fun lk H1 nlk g1 ek => ?_⟩)
    dsimp only [gName]
    have h1k := h.grow g1
    refine rd_seq (rd_asg ⟨by show 0 ≤ sizeLine; decide, fun lb0 nlb0 => ?_⟩)
    obtain ⟨g2, e2⟩ := laid (o := .lst []) nlb0
    dsimp only [gName]
    generalize upd H1 lb0 _ = H3 at g2 e2 ⊢
    have g13 := g1.trans g2
    have h3k := h.grow g13
    have kn5 : (kvs.map (·.1)).Nodup := by rw [kp_keys h.kp]; exact List.pairwise_map.mpr (List.Pairwise.imp (fun hne z => hne (Sum.inr.inj z)) h.nd)
    have nknq : kn ≠ q := ne_of hkn h.kq (fun z => nomatch z)
    refine rd_seq ⟨q, kvs, h3k.kq, fun ob => ⟨_, rfl, q, ob, kvs, rfl, upd_same, for_dict (fun i => RiK H3 p q kn d lk k fi la ob kvs (bsOf (J.take i))) ⟨lb0, [], none, none, rfl, fun b o e hb => by rw [upd_ne hb]; exact e, upd_same, by rw [upd_ne (ne_of e2 h3k.kq (fun z => nomatch z))]; exact e2, .nil⟩ (fun i σ H4 _ hh => ?_) (fun i kv σ H4 hi hh => ?_) fun σ H4 hh => ?_⟩⟩
    · obtain ⟨lb, qs, v9, v10, rfl, a1, a2, a3, a4⟩ := hh
      exact a2
    · obtain ⟨lb, qs, v9, v10, rfl, a1, a2, a3, a4⟩ := hh
      obtain ⟨x, ex, hk1, lx, hk2, ⟨xs, exs, rxs⟩⟩ := paired_get h3k.kp hi
      have hv : valV kvs (Sum.inr x.1) = some (.ref lx) := by
        have := valV_mem kn5 kv (List.mem_of_getElem? hi)
        rw [hk1, hk2] at this
        exact this
      have nlx : lx ≠ q := ne_of exs h3k.kq (fun z => nomatch z)
      have hlen := bsOf_len ex
      have hxl : xs.length = x.2.length := Paired.length rxs
      have hql : qs.length ≤ (bsOf (J.take i)).length := by
        rw [show qs.length = _ from Paired.length a4]
        exact List.length_filter_le _ _
      rw [hk1]
      dsimp only [gName, List.set_cons_zero, List.set_cons_succ, kV]
      have exs4 := a1 _ _ exs nlx
      have rxs4 : RowB H4 xs x.2 := Paired.mapP rxs fun _ _ e => a1 _ _ e (ne_of e h3k.kq (fun z => nomatch z))
      refine rd_asg ⟨_, rfl, rd_comp ⟨_, rfl, _, rfl, q, _, rfl, .inl ⟨kvs, Sum.inr x.1, .inr ⟨ob, a2⟩, rfl, hv.symm⟩, lx, rfl, ⟨_, SqL.of exs4⟩, compB_rows (meetR k fi la) (by rw [sizeLine_eq]; omega) exs4 rxs4 (fun p' r H5 R _ _ ep hR => ?_) fun D qs2 H5 nD g5 e5 r5 => ?_⟩⟩
      · have hR := hR H5 fun _ _ e => e
        unfold meetR at hR
        refine ⟨_, rfl, p', _, 0, _, rfl, rfl, SqT.of ep, rfl, _, rfl, rfl, _, rfl, ite2 (fun h1 => ?_) fun h1 => ?_⟩
        · rw [decide_eq_true (V.str.inj (of_decide_eq_true h1)), Bool.true_and] at hR
          refine ⟨_, rfl, p', _, 1, _, rfl, rfl, SqT.of ep, rfl, _, rfl, _, _, rfl, rfl, _, rfl, ite2 (fun h2 => ?_) fun h2 => ?_⟩
          · have h2 : decide (r.2.1 ≤ la) = true := h2
            rw [h2, Bool.true_and] at hR
            exact ⟨_, rfl, _, rfl, p', _, 2, _, rfl, rfl, SqT.of ep, rfl, _, _, rfl, rfl, _, rfl, hR⟩
          · have h2 : decide (r.2.1 ≤ la) = false := Bool.eq_false_iff.mpr h2
            rw [h2, Bool.false_and] at hR
            exact hR
        · rw [decide_eq_false (fun z => h1 (decide_eq_true (congrArg V.str z))), Bool.false_and] at hR
          exact hR
      · have hq2 : qs2.length ≤ x.2.length := by
          rw [show qs2.length = _ from Paired.length r5]
          exact List.length_filter_le _ _
        refine ⟨lb, D, _, _, rfl, rfl, g5 _ _ a3, e5, by rw [List.length_map, List.length_map, sizeLine_eq]; omega, fun lc nlc => ?_⟩
        rw [← List.map_append]
        obtain ⟨g6, e6⟩ := laid (o := .lst ((qs ++ qs2).map V.ref)) nlc
        dsimp only [gName, List.set_cons_zero, List.set_cons_succ]
        have g56 := g5.trans g6
        refine ⟨lc, qs ++ qs2, _, _, rfl, fun b o e hb => g56 _ _ (a1 _ _ e hb), g56 _ _ a2, e6, ?_⟩
        rw [bsOf_take ex, List.filter_append]
        exact paired_app (Paired.mapP a4 fun _ _ e => g56 _ _ e) (Paired.mapP r5 fun _ _ e => g6 _ _ e)
    · obtain ⟨lb, qs, v9, v10, rfl, a1, a2, a3, a4⟩ := hh
      refine ⟨⟨ob, a2⟩, ?_⟩
      dsimp only
      rw [show kvs.length = J.length from Paired.length h.kp, List.take_length] at a4
      have nql : ∀ b x, H4 b = some (.lst x) → b ≠ q := fun b x e z => by rw [z, a2] at e; cases e
      have nqt : ∀ b x, H4 b = some (.tup x) → b ≠ q := fun b x e z => by rw [z, a2] at e; cases e
      have g9 : Grow H3 (upd H4 q (.dK kvs)) := fun b o e => by
        by_cases z : b = q
        · rw [z, h3k.kq] at e
          rw [z, upd_same]
          exact e
        · rw [upd_ne z]; exact a1 _ _ e z
      have a3 : upd H4 q (.dK kvs) lb = some (.lst (qs.map V.ref)) := by rw [upd_ne (nql _ _ a3)]; exact a3
      have a4 : RowB (upd H4 q (.dK kvs)) qs ((bsOf J).filter (meetR k fi la)) := Paired.mapP a4 fun _ _ e => by rw [upd_ne (nqt _ _ e)]; exact e
      generalize upd H4 q (.dK kvs) = H9 at g9 a3 a4 ⊢
      have h9 := h3k.grow g9
      obtain ⟨dx, ho⟩ := h9.ix.ob
      refine rd_seq (rd_asg ⟨_, rfl, p, dx, _, rfl, ho, if_no a (by decide +kernel) (by decide +kernel) (by decide +kernel), _, rfl, _, rfl, _, rfl, p, a, M, I, n, k, fi, la, rfl, h9.ix, hnm _, h0, h1, h2, h.li, fun t lo Ha os ga nlo et elo so nd hm => ?_⟩)
      refine ⟨t, _, 1, _, rfl, rfl, SqT.of et, rfl, ?_⟩
      dsimp only [gName, List.set_cons_zero, List.set_cons_succ]
      have eka := ga _ _ (g9 _ _ (g2 _ _ ek))
      have eba := ga _ _ a3
      have hmost := looked_most (k := k) h0 h1 h2 (alls_ok (I := I) fun x hx r hr => hok x (hp.mem_iff.mp hx) r hr)
      rw [meet_len hp] at hmost
      have hqs : qs.length = ((bsOf J).filter (meetR k fi la)).length := Paired.length a4
      have hfl := List.length_filter_le (meetR k fi la) (bsOf J)
      refine rd_seq (rd_if ⟨_, rfl, _, rfl, lk, _, rfl, .inl (SqL.of eka), rfl, _, rfl, ?_⟩)
      rw [List.length_map, show (!decide (V.int ((looked (alls I) k fi la).length : Int) = V.int ((lookL (fun n => decide (0 < wt (alls I) k n)) fi la 8 256).length : Int))) = false from by unfold looked; rw [decide_eq_true rfl]; rfl]
      refine iteF ⟨_, rfl, _, rfl, lb, _, rfl, .inl (SqL.of eba), _, _, rfl, rfl, .inl ⟨by decide, by decide⟩, _, _, rfl, rfl, _, _, rfl, rfl, _, rfl, ite2 (fun hc => ?_) fun _ => rd_next ?_⟩
      · have hc := of_decide_eq_true hc
        rw [List.length_map, hqs] at hc
        unfold looked at hc
        omega
      dsimp only
      have rba : RowB Ha qs ((bsOf J).filter (meetR k fi la)) := Paired.mapP a4 fun _ _ e => ga _ _ e
      have hkna := ga _ _ (g9 _ _ (g13 _ _ hkn))
      refine rd_ret ?_
      refine rd_opCB (rd_comp ⟨_, rfl, lb, rfl, ⟨_, SqL.of eba⟩, compB_rows (fun _ => false) (by rw [sizeLine_eq]; omega) eba rba (fun p' r H5 R hr g5 ep hR => ?_) fun D qs2 H5 nD g5 e5 r5 => ?_⟩)
      · obtain ⟨hrJ, hrm⟩ := List.mem_filter.mp hr
        obtain ⟨m1, m2, m3⟩ := meetR_iff.mp hrm
        have hkv := hkd r hrJ
        obtain ⟨x, hx, hrx⟩ := List.mem_flatMap.mp hrJ
        have hd := hok x hx r hrx
        refine ⟨_, rfl, _, rfl, p', _, 1, _, rfl, rfl, SqT.of ep, rfl, _, rfl, p', _, 2, _, rfl, rfl, SqT.of ep, rfl, by show 2 ≤ sizeLine; decide, fun t1 nt1 => ?_⟩
        obtain ⟨g6, e6⟩ := laid (o := .tup ((kf r.2.1 r.2.2).map kV)) nt1
        change dgetR _ _ (upd H5 t1 (.tup ((kf r.2.1 r.2.2).map kV))) _
        generalize upd H5 t1 (.tup ((kf r.2.1 r.2.2).map kV)) = H6 at g6 e6 ⊢
        have gk : DGet H6 kn (.ref t1) (some (.int (knot r.2.1 r.2.2))) := by
          have z := DGet.t (k := kf r.2.1 r.2.2) (g6 _ _ (g5 _ _ hkna)) e6
          rw [hkv] at z
          exact z
        refine ⟨kn, _, rfl, gk, _, rfl, lk, _, rfl, .inl (SqL.of (g6 _ _ (g5 _ _ eka))), rfl, ?_, _, rfl, ?_⟩
        · rw [List.all_map, List.all_eq_true]; intro _ _; rfl
        · have hin : inV (.int (knot r.2.1 r.2.2)) ((lookL (fun n => decide (0 < wt (alls I) k n)) fi la 8 256).map V.int) = true := by
            refine List.any_eq_true.mpr ⟨.int (knot r.2.1 r.2.2), List.mem_map.mpr ⟨_, way_looked (f' := r.2.1) (l' := r.2.2) m3 m2 8 256 (Kn.Under.top hd.1 hd.2.1 hd.2.2) (fun m hm => ?_) _ (knot_mem r.2.1 r.2.2), rfl⟩, ?_⟩
            · exact decide_eq_true ((fj_wt hp k m).mp ⟨r, hrJ, m1, hm⟩)
            · show (knot r.2.1 r.2.2 == knot r.2.1 r.2.2) = true
              exact beq_self_eq_true _
          show R (if true = true then !inV _ _ else _) H6
          rw [if_pos rfl, hin]
          exact hR _ g6
      · have hn : qs2 = [] := by
          have := Paired.length r5
          rw [List.filter_eq_nil_iff.mpr (fun _ _ => by decide)] at this
          exact List.length_eq_zero_iff.mp this
        subst hn
        exact ⟨D, _, rfl, .inl (SqL.of e5), rfl, hq _ (g13.trans (g9.trans (ga.trans g5)))⟩
end
end Mine
namespace L2
open PySem PySem.Spec PyProof.Rows
theorem rv_hint : typeLookup (.type "list_reverseiterator") "__length_hint__" = pure (some (.builtin "list_reverseiterator.__length_hint__")) := by rw [typeLookup_type, builtinLookup_eq_fast]; kernel_rfl
theorem rv_nolen : typeLookup (.type "list_reverseiterator") "__len__" = pure none := by rw [typeLookup_type, builtinLookup_eq_fast]; kernel_rfl
section
variable {prog : Program} {w : World} {A : Around} {s : Shared} {R : Result → Shared → Prop} {I : Addr} {fp wr : List Addr} {G : Array GenState → Array GenState → Prop} {n : Nat} {P : Nat → Value → Prop} {St : Nat → Shared → Prop}
theorem rv_extend (W : WalksS prog w A.in1 I fp wr G n P St) (ty : ∀ i s, St i s → s.TypeIs (.ref I) "list_reverseiterator") (S : Addr) (c0 : Nat) (z0 : St 0 s) (nS : S ∉ fp) (mI : I ∈ fp) (oS : s.heap.get? S = some { cls := .type "list", data := .seq #[] c0 }) (hn : n ≤ sizeLine)
    (q : ∀ s' ys c, Moved (S :: wr) G s s' → s'.heap.get? S = some { cls := .type "list", dict := none, data := .seq ys c, slots := #[] } → ItemsOf P ys n → R (.ok (.ret .none)) s') :
    wpAny (model prog w) A.in1 (Builtin.List.listExtendWith (.ref S) (.ref I) .none) (fun fin s' => match fin with | .done f => R (.ok f) s' | .again c' => c'.quiet = true ∧ codeAny (model prog w) A c' R s') (fun e s' => R (.error e) s') s := by
  have nSI : S ≠ I := fun e => nS (e ▸ mI)
  have ns : Builtin.List.listSameRef (.ref S) (.ref I) = false := by simp [Builtin.List.listSameRef, nSI]
  unfold Builtin.List.listExtendWith; refine wpAny_bind (wpAny_typeOf (ty 0 _ z0) ?_)
  rw [if_neg (by rw [ns]; decide)]
  refine wpAny_bind (W.self 0 _ _ _ z0 (wpAny_bind (wpAny_holding ?_)))
  unfold Builtin.List.listLengthHint; refine wpAny_bind (wpAny_specialOf (ty 0 _ z0) rv_nolen ?_)
  show wpAny _ A.in1 (specialOf (.ref I) (Str.ofString "__length_hint__") >>= _) _ _ _
  refine wpAny_bind (wpAny_specialOf (ty 0 _ z0) rv_hint ?_)
  generalize hid : ("list_reverseiterator.__length_hint__" : String) = i0; wp_delta; rw [show splitId i0 = some ("list_reverseiterator", "__length_hint__") from by subst hid; decide +kernel]; subst hid
  refine wpAny_bind (wpAny_isInstance (b := true) (ty 0 _ z0) (by rw [isSubtype_type]; kernel_rfl) (wpAny_pure ?_))
  rw [if_neg (by decide)]
  exact wpAny_pure ⟨plainId_quiet F.plain_extend_loop _, codeAny_extend_loopS W hn _ nS _ n 0 _ _ _ rfl (Nat.zero_le _) z0 oS (ItemsOf.nil P) fun s' ys c mv o it => q s' ys c mv o it⟩
theorem rv_init (W : WalksS prog w A.in1 I fp wr G n P St) (ty : ∀ i s, St i s → s.TypeIs (.ref I) "list_reverseiterator") (S : Addr) (z0 : St 0 s) (nS : S ∉ fp) (mI : I ∈ fp) (oS : s.heap.get? S = some { cls := .type "list", data := .seq #[] }) (hn : n ≤ sizeLine)
    (q : ∀ s' ys c, Moved (S :: wr) G s s' → s'.heap.get? S = some { cls := .type "list", dict := none, data := .seq ys c, slots := #[] } → ItemsOf P ys n → R (.ok (.ret .none)) s') :
    wpAny (model prog w) A.in1 (Builtin.«list.__init__» ⟨[.ref S, .ref I], []⟩) (fun fin s' => match fin with | .done f => R (.ok f) s' | .again c' => c'.quiet = true ∧ codeAny (model prog w) A c' R s') (fun e s' => R (.error e) s') s := by
  show wpAny _ A.in1 (do let xs ← Builtin.List.listItems (.ref S); Builtin.List.listUpdate (.ref S) (fun _ => #[]); letGo xs.toList.reverse; Builtin.List.listExtendWith (.ref S) (.ref I) .none) _ _ s
  refine wpAny_bind ?_
  unfold Builtin.List.listItems; refine wpAny_bind (wpAny_seqItems oS rfl (wpAny_pure ?_))
  show wpAny _ A.in1 (updateSeq S (fun _ => #[]) >>= fun _ => letGo (#[] : Array Value).toList.reverse >>= fun _ => _) _ _ s
  refine wpAny_bind (wpAny_updateSeq oS rfl ?_)
  have o2 := Heap.get?_update_self (Obj.mapSeq (fun _ => (#[] : Array Value))) oS rfl
  have kp : ∀ b o, b ≠ S → s.heap.get? b = some o → (s.heap.update S (Obj.mapSeq (fun _ => (#[] : Array Value)))).get? b = some o := fun b o nb e => (Heap.get?_update_other _ _ (Ne.symm nb)).trans e
  refine wpAny_bind (wpAny_letGo (rv_extend W ty S _ (W.frame 0 s _ s.toks z0 (Nat.le_refl _) fun b mb o e => kp b o (fun z => nS (z ▸ mb)) e) nS mI o2 hn fun s' ys c mv o it => ?_))
  exact q s' ys c (Moved.trans W.gtrans ((Moved.refl W.grefl).then_heap (Nat.le_refl _) fun b o nb e => kp b o (fun z => nb (z ▸ List.mem_cons_self)) e) mv) o it
end
section
variable {prog : Program} {w : World} {A : Around} {E : Value → Shared → Prop} {s : Shared}
theorem call_list_rev {it l : Addr} {its : Array Value} {Q : Value → Shared → Prop} (hh : A.handled = none) (hi : s.heap.IsRevIter it l ((its.size : Int) - 1)) (hl : s.heap.IsList l its) (ne : l ≠ it) (hn : its.size ≤ sizeLine)
    (q : ∀ (h' : Heap) (tk c : Nat), (∀ b o, b ≠ it → s.heap.get? b = some o → h'.get? b = some o) → h'.get? s.heap.objs.size = some { cls := .type "list", dict := none, data := .seq its.reverse c, slots := #[] } → Q (.ref s.heap.objs.size) { s with heap := h', toks := tk }) :
    wpAny (model prog w) A (call (.type "list") [.ref it]) Q E s := by
  obtain ⟨oi, ei, ci, di⟩ := id hi
  obtain ⟨ol, el, cl, nl, dl⟩ := id hl
  have li : it < s.heap.objs.size := Heap.lt_size ei
  have ll : l < s.heap.objs.size := Heap.lt_size el
  have nS : s.heap.objs.size ∉ [it, l] := fun z => by
    rcases List.mem_cons.mp z with z | z
    · exact Nat.ne_of_gt li z
    · exact Nat.ne_of_gt ll (List.mem_singleton.mp z)
  have W := (Walks.listRev (prog := prog) (w := w) (A := A.in1.in1) (by simp [hh]) it l ne its).toS
  refine callType_codes (Q₁ := fun ob s1 => ob = .ref s.heap.objs.size ∧ s1 = { s with heap := s.heap.push { cls := .type "list", data := .seq #[] } }) F.called_list (F.typeCall_list_1 _) F.entry_list_init (code_list_new _ ⟨rfl, rfl⟩) fun ob s1 h1 => ?_
  obtain ⟨rfl, rfl⟩ := h1
  have oS : (s.heap.push { cls := .type "list", data := .seq #[] }).get? s.heap.objs.size = some { cls := .type "list", data := .seq #[] } := Heap.get?_push_size _ rfl
  refine ⟨⟨_, oS, rfl⟩, F.args_list_init_2 _ _, rv_init W (fun i s z => z.2.1.typeIs) _ ⟨Nat.zero_le _, ?_, ?_⟩ nS List.mem_cons_self oS hn fun s' ys c mv o x => ⟨rfl, ?_⟩⟩
  · have : (its.size : Int) - 1 - ((0 : Nat) : Int) = (its.size : Int) - 1 := by omega
    rw [this]
    exact hi.at fun o e => Heap.get?_push_of_some _ e
  · exact hl.at fun o e => Heap.get?_push_of_some _ e
  · obtain ⟨h', g', d', tk', os'⟩ := s'
    obtain rfl : g' = s.gens := mv.gens
    obtain rfl : d' = s.drawn := mv.drawn
    obtain rfl : os' = s.os := mv.os
    have ey : ys = its.reverse := by
      refine Array.ext (by rw [x.1, Array.size_reverse]) fun i h1 h2 => ?_
      have a := x.2 i ys[i] (Array.getElem?_eq_getElem h1)
      rw [Array.getElem_reverse]
      have hi : its.size - 1 - i < its.size := by have := x.1; omega
      have a : its[its.size - 1 - i]? = some ys[i] := a
      rw [Array.getElem?_eq_getElem hi] at a
      exact (Option.some.inj a).symm
    subst ey
    refine q h' tk' c (fun b o nb e => mv.heap b o (fun z => ?_) (Heap.get?_push_of_some _ e)) o
    rcases List.mem_cons.mp z with z | z
    · exact Nat.ne_of_lt (Heap.lt_size e) z
    · exact nb (List.mem_singleton.mp z)
end
inductive rRev (K : PySem.W.Frag) (xs : List V) (H : Hp) (Q : VK) : Prop
  | mk (p ys) (h1 : xs = [.ref p]) (h2 : SqL K H p ys) (h3 : ∀ l, H l = none → Q (.ref l) (upd H l (.lst ys.reverse))) : rRev K xs H Q
theorem pe_listRev {X : Cx} {a : Expr} {ta : TA} {p1 p2 q1 q2 : Pos} (hh : X.A.handled = none) (g1 : Gl X "list") (m1 : X.mg "list" = none) (g2 : Gl X "reversed") (m2 : X.mg "reversed" = none) (ha : PA X [a] ta)
    (hs1 : starEach [.Call (.Name "reversed" p2) [a] [] q2] X.env = [(false, eval (.Call (.Name "reversed" p2) [a] [] q2) X.env)] := by rfl) (hs : starEach [a] X.env = [(false, eval a X.env)] := by rfl) : PE X (.Call (.Name "list" p1) [.Call (.Name "reversed" p2) [a] [] q2] [] q1) (tCB (rRev X.K) ta) := by
  intro pins s σ H Q I h
  refine wpAny_Call_Name_kw (ld_blt I g1 m1 PyProof.Rows.Boot.«list» (PyProof.Rows.callWith_type1 ?_ hs1 rfl))
  rw [hs1]
  show wpAny _ _ (spliced [(false, eval (.Call (.Name "reversed" p2) [a] [] q2) X.env)]) _ _ s
  refine Calls.spliced_cons (wpAny_Call_Name_kw (ld_blt I g2 m2 PyProof.Rows.Boot.«reversed» (PyProof.Rows.callWith_type1 (thn (ha q2 pins s σ H _ I h) fun us s1 ⟨vs, H1, I1, r1, z1⟩ => ?_) hs rfl)))
  obtain ⟨p, ys, rfl, hq, q⟩ := z1
  obtain ⟨u, rfl, ru⟩ := Vals.one r1
  cases ru
  obtain ⟨its, rv, pl, hz⟩ := I1.list hq
  refine call_reversed_list pl.isList (Calls.spliced_nil ?_)
  obtain ⟨ol, el, _⟩ := id pl.isList
  have lp : p < s1.heap.objs.size := Heap.lt_size el
  have hl2 := rv.length
  refine call_list_rev (its := its.toArray) hh ⟨_, Heap.get?_push_size _ rfl, rfl, rfl⟩ (pl.isList.push _) (Nat.ne_of_lt lp) (by rw [List.size_toArray]; omega) fun h' tk c kp o => ?_
  have zp : (s1.heap.push (revObj p ((its.toArray.size : Int) - 1))).objs.size = s1.heap.objs.size + 1 := Heap.size_push _ _
  have k1 : ∀ b u, s1.heap.get? b = some u → h'.get? b = some u := fun b u e => kp b u (Nat.ne_of_lt (Heap.lt_size e)) (Heap.get?_push_of_some _ e)
  rw [List.reverse_toArray] at o
  dsimp only at o
  rw [zp] at o
  show EP X pins σ Q (.ref (s1.heap.push (revObj p ((its.toArray.size : Int) - 1))).objs.size) _
  rw [zp]
  exact ⟨.ref (s1.heap.objs.size + 1), _, I1.laid (t' := tk) k1 (Nat.le_succ _) (show ObjOk X.prog X.w _ h' _ (.lst ys.reverse) from ⟨by rw [List.length_reverse]; exact hz, its.reverse, c, rv.reverse, o⟩), rfl, q _ (I1.hok.fresh (Nat.le_succ _))⟩
inductive rSameT (neg : Bool) (x : V) (y : V) (H : Hp) (Q : VK) : Prop
  | mk (a b l1 l2 xs n) (h1 : x = .ref a) (h2 : y = .ref b) (h3 : H a = some (.tup [.ref l1, .int n])) (h4 : H b = some (.tup [.ref l2, .int n])) (h5 : H l1 = some (.lst xs)) (h6 : H l2 = some (.lst xs)) (h7 : xs.all plainV = true) (h8 : Q (.bl (!neg)) H) : rSameT neg x y H Q
theorem op_neSameT {X : Cx} (hu : X.A.units + 64 < cLine) : OpR X (compareOp .NotEq) (rSameT true) := by
  intro pins s σ H x y v u Q I r1 r2 h
  obtain ⟨a, b, l1, l2, xs, n, rfl, rfl, ea, eb, e1, e2, hp, q⟩ := h
  cases r1; cases r2
  obtain ⟨us, v1, o1⟩ := isTup I ea
  obtain ⟨vs, v2, o2⟩ := isTup I eb
  obtain ⟨xs1, w1, p1⟩ := isLst I e1
  obtain ⟨xs2, w2, p2⟩ := isLst I e2
  refine SeqAt.RcNeAt.tuples (e := fun _ => true) o1 o2 (by omega) (fun j h1 h2 => ?_) _ _ _ _ ?_
  · cases v1 with
    | cons a1 t1 =>
      cases t1 with
      | cons b1 t1 =>
        cases t1
        cases v2 with
        | cons a2 t2 =>
          cases t2 with
          | cons b2 t2 =>
            cases t2
            cases a1
            cases a2
            match j, h1, h2 with
            | 0, _, _ =>
              show SeqAt.EqAt X.A.in1 s (.ref l1) (.ref l2) true
              by_cases z : l1 = l2
              · rw [z]; exact SeqAt.EqAt.same _
              · refine SeqAt.EqAt.of_refs z ?_
                have q := SeqAt.RcAt.lists (A := X.A.in1) (s := s) (e := fun _ => true) p1 p2 (by rw [List.size_toArray, List.size_toArray, ← Paired.length w1, ← Paired.length w2]) (show X.A.units + 1 < cLine by omega) (vals_same hp w1 w2)
                rw [all_range_true] at q
                exact q
            | 1, _, _ => exact eqAt_same (x := .int n) rfl b1 b2
            | n + 2, h1, _ => exact absurd h1 (by simp)
  · have z1 := Paired.length v1
    have z2 := Paired.length v2
    rw [all_range_true, List.size_toArray, List.size_toArray, ← z1, ← z2]
    exact ⟨.bl false, H, I, rfl, q⟩
end L2
namespace Mine
open PySem L2
abbrev sLaw : Stmt := top 44
def spLaw (K : PySem.W.Frag) (C : Addr) : Sp := fun vs H Q _ => ∃ (a : Addr) (ns : List Int), vs = [.ref a] ∧ SqL K H a (ns.map V.int) ∧ ns.length ≤ 63 ∧ ∀ H', Q (.bl true) H'
theorem cutI (ns : List Int) (i j : Option Int) : ∃ ms : List Int, cutV (ns.map V.int) i j = ms.map V.int ∧ ms.length ≤ ns.length := by
  refine ⟨(ns.drop (HT.sIx (ns.map V.int).length 0 i)).take (HT.sIx (ns.map V.int).length (ns.map V.int).length j - HT.sIx (ns.map V.int).length 0 i), ?_, ?_⟩
  · unfold cutV
    rw [← List.map_drop, ← List.map_take]
  · rw [List.length_take, List.length_drop]
    omega
theorem min400 {i j : Int} (h0 : 0 ≤ i) (h1 : i < 400) (hj : 0 ≤ j) : i ≤ (if i + j < 399 then i + j else 399) ∧ (if i + j < 399 then i + j else 399) < 400 := by
  split <;> omega
theorem last_ok {fi mo wy : Int} (h0 : 0 ≤ fi) (h1 : fi < 400) (m0 : 0 ≤ mo) (w0 : 0 ≤ wy) (w1 : wy < 4) : ∃ v, atI [V.int fi, V.int (if fi + mo % 12 < 399 then fi + mo % 12 else 399), V.int (if fi + mo < 399 then fi + mo else 399), V.int 399] wy = some (V.int v) ∧ fi ≤ v ∧ v < 400 := by
  rcases (show wy = 0 ∨ wy = 1 ∨ wy = 2 ∨ wy = 3 by omega) with rfl | rfl | rfl | rfl
  · exact ⟨_, rfl, Int.le_refl _, h1⟩
  · exact ⟨_, rfl, min400 h0 h1 (by omega)⟩
  · exact ⟨_, rfl, min400 h0 h1 m0⟩
  · exact ⟨_, rfl, by omega, by decide⟩
theorem par_ok {fi : Int} (h0 : 0 ≤ fi) : 0 ≤ fi % 2 * fi ∧ fi % 2 * fi ≤ fi := by
  rcases (show fi % 2 = 0 ∨ fi % 2 = 1 by omega) with h | h <;> rw [h] <;> omega
theorem paired_rev {α β : Type} {P : α → β → Prop} {xs : List α} {ys : List β} (h : Paired P xs ys) : Paired P xs.reverse ys.reverse := by
  induction h with
  | nil => exact .nil
  | cons a t ih => rw [List.reverse_cons, List.reverse_cons]; exact paired_snoc ih a
def revJ (J : Ix) : Ix := J.map fun x => (x.1, x.2.reverse)
theorem revJ_keys (J : Ix) : (revJ J).map (·.1) = J.map (·.1) := by unfold revJ; rw [List.map_map]; rfl
theorem look_rev (J : Ix) (o : Str) : look (revJ J) o = (look J o).map List.reverse := by
  induction J with
  | nil => rfl
  | cons x J ih =>
    by_cases z : x.1 = o
    · rw [look_pos z, show revJ (x :: J) = (x.1, x.2.reverse) :: revJ J from rfl, look_pos (x := (x.1, x.2.reverse)) z]; rfl
    · rw [look_neg z, show revJ (x :: J) = (x.1, x.2.reverse) :: revJ J from rfl, look_neg (x := (x.1, x.2.reverse)) z]; exact ih
theorem alls_rev (J : Ix) : (alls (revJ J)).Perm (alls J) := by
  induction J with
  | nil => exact .refl _
  | cons x J ih =>
    show ((x.2.reverse.map fun b => (x.1, b)) ++ alls (revJ J)).Perm ((x.2.map fun b => (x.1, b)) ++ alls J)
    exact ((List.reverse_perm _).map _).append ih
theorem meets_perm {L L' : List OB} (h : L.Perm L') (k : Str) (f l : Int) (o : Str) : Meets L k f l o ↔ Meets L' k f l o := ⟨fun ⟨x, hx, r⟩ => ⟨x, h.mem_iff.mp hx, r⟩, fun ⟨x, hx, r⟩ => ⟨x, h.mem_iff.mpr hx, r⟩⟩
theorem looked_perm {L L' : List OB} (h : L.Perm L') (k : Str) (f l : Int) : looked L k f l = looked L' k f l := by
  unfold looked
  congr 1
  funext n
  rw [wt_perm h]
theorem plain_ss (os : List Str) : (os.map V.str).all plainV = true := by
  rw [List.all_map, List.all_eq_true]
  intro x _
  rfl
inductive OtI (C : Addr) (H1 H4 : Hp) (sa p q po ls : Addr) (ao : IA) (J : Ix) (os : List Str) (i : Nat) (σ : St) (H2 : Hp) : Prop
  | mk (Mo : Addr → Prop) (IO : Ix) (NN : Nat) (v4 v5 v6 v7 v8 v9 v10 v11 v12 : Option V) (h1 : σ = [some (.ref sa), some (.ref p), some (.ref q), some (.ref po), v4, v5, v6, v7, v8, v9, v10, v11, v12]) (h2 : IxAt C H2 po ao Mo IO NN) (h3 : Fr2 H4 H2 (mm ao (ini ao)) (mm ao Mo)) (h4 : ∀ o, look IO o = if o ∈ os.take i then (look J o).map List.reverse else none) (h5 : IO.length ≤ i) (h6 : NN ≤ 401 * i) : OtI C H1 H4 sa p q po ls ao J os i σ H2
inductive LaI (H1 : Hp) (sa p q po kn td : Addr) (i : Nat) (σ : St) (H2 : Hp) : Prop
  | mk (v4 v7 v8 v9 v10 v11 v12 : Option V) (h1 : σ = [some (.ref sa), some (.ref p), some (.ref q), some (.ref po), v4, some (.ref kn), some (.ref td), v7, v8, v9, v10, v11, v12]) (h2 : Grow H1 H2) : LaI H1 sa p q po kn td i σ H2
section
variable {P : Program} {w : World} {K : PySem.W.Frag} {mg : Str → Option Value} {base : Heap}
theorem scLaw : FnScope ["_law_script", "_law_index", "_law_kept", "_law_other", "_law_owner", "_law_knots_here", "_law_there_here", "_law_cell", "_law_key", "_law_first", "_law_more", "_law_way", "_law_last"] ["_law_script"] (defScope sLaw) := ⟨rfl, rfl, rfl, by decide +kernel, rfl, by decide +kernel, by decide +kernel⟩
theorem ok_law {f f1 f2 f3 f4 f5 f6 f7 f8 f9 f20 C : Addr} {fd : FuncData} (F : Fun K "law" "law" sLaw f fd) (N : Free mg) {fd1 : FuncData} (CD : Cal P w K mg base "_law_wide" 1 ["_law_cell"] spWide f1 fd1) {fd2 : FuncData} (CN : Cal P w K mg base "_law_numbers" 2 ["_law_cell", "_law_digits", "_law_bases"] spNumbers f2 fd2) {fd3 : FuncData} (CK : Cal P w K mg base "_law_keys" 1 [] spKeysL f3 fd3) {fd4 : FuncData} (CL : Cal P w K mg base "_law_told" 8 ["_law_script"] (spFilled K C) f4 fd4) {fd5 : FuncData} (CO : Cal P w K mg base "_law_knots" 3 ["_law_kept"] spKnots f5 fd5) {fd6 : FuncData} (CT : Cal P w K mg base "_law_there" 3 ["_law_kept", "_law_knots_here"] spThere f6 fd6) {fd7 : FuncData} (CI : Cal P w K mg base "_law_right" 5 ["_law_index", "_law_kept", "_law_knots_here", "_law_there_here", "_law_key", "_law_first", "_law_last"] (spRight C K) f7 fd7) {fd8 : FuncData} (MM : MC P w K mg base C "meeting" 4 ["self", "key", "first", "last"] [] [] (spMeeting C K) f8 fd8) {fd9 : FuncData} (MP : MC P w K mg base C "put" 6 ["self", "owner", "boxes"] [] [] (spPut C K) f9 fd9) (MK : Mk K C f20) {fd20 : FuncData} (GI : FnOk P w K mg base CX0 1 f20 fd20 ["self"] (spInitI C)) (bI : Binds K fd20 ["self"] []) (mC : mg "Index" = some (.ref C)) : FnOk P w K mg base CX0 9 f fd ["_law_script"] (spLaw K C) := by
  refine F.ok (k := 8) scLaw (fun vs H Q E h => ?_) (fun cdv A outer s H vs Q E hr h => ?_)
  · obtain ⟨sa, ns, rfl, _⟩ := h
    rfl
  · obtain ⟨sa, ns, rfl, hS, h63, hq⟩ := h
    have hu := hu_of hr
    refine ⟨_, (pss_cons (ps_asg (pe_call CL.ok (hr.mono (by decide)) rfl CL.nm CL.kp CL.bd .nil pass0 (pa_kons (pv 0) pa_nil)) (pg_tup rfl (pgs_cons (pg_name (i := 1) scLaw.nd rfl (Or.inl rfl)) (pgs_cons (pg_name (i := 2) scLaw.nd rfl (Or.inl rfl)) pgs_nil))))
      (pss_cons (ps_if (pt_cmp (pc_isN (pv 1))) (pss_one (ps_ret pe_bl)) pss_nil)
      (pss_cons (ps_set (i := 3) scLaw.nd rfl (Or.inl rfl) (pe_make0 MK GI (hr.mono (by decide)) rfl mC bI .nil pass0))
      (pss_cons (ps_for PassesOwn.never rfl (pi_list (pe_callB (call_sortedD hr.hd) (by rfl) N.sorted PyProof.Rows.Boot.«sorted» (pa_kons (pv 2) pa_nil))) (pg_name (i := 4) scLaw.nd rfl (Or.inl rfl))
      (pss_one (ps_expr (pe_meth (pv 3) MP.cl MP.mt MP.ok (hr.mono (by decide)) MP.bd MP.dv pass0 (pa_kons (pv 4) (pa_kons (pe_listRev hr.hd (by rfl) N.list (by rfl) N.reversed (pa_kons (pe_dget hu (pv 2) (pv 4) (fun _ _ => rfl)) pa_nil)) pa_nil))))))
      (pss_cons (ps_set (i := 5) scLaw.nd rfl (Or.inl rfl) (pe_call CO.ok (hr.mono (by decide)) rfl CO.nm CO.kp CO.bd .nil pass0 (pa_kons (pv 2) pa_nil)))
      (pss_cons (ps_set (i := 6) scLaw.nd rfl (Or.inl rfl) (pe_call CT.ok (hr.mono (by decide)) rfl CT.nm CT.kp CT.bd .nil pass0 (pa_kons (pv 2) (pa_kons (pv 5) pa_nil))))
      (pss_cons (ps_for PassesOwn.never rfl (pi_list (pe_op op_cat (pe_slice sl_list (pv 0) (po_some pe_int) (po_some pe_int)) (pe_lst (pa_kons pe_int (pa_kons pe_int pa_nil))))) (pg_name (i := 7) scLaw.nd rfl (Or.inl rfl))
      (pss_cons (ps_asg (pe_call CN.ok (hr.mono (by decide)) rfl CN.nm CN.kp CN.bd .nil pass0 (pa_kons (pv 7) (pa_kons (pe_call CD.ok (hr.mono (by decide)) rfl CD.nm CD.kp CD.bd .nil pass0 (pa_kons (pv 7) pa_nil)) (pa_kons (pe_lst (pa_kons pe_int (pa_kons pe_int (pa_kons pe_int (pa_kons pe_int pa_nil))))) pa_nil)))) (pg_lst rfl (pgs_cons (pg_name (i := 8) scLaw.nd rfl (Or.inl rfl)) (pgs_cons (pg_name (i := 9) scLaw.nd rfl (Or.inl rfl)) (pgs_cons (pg_name (i := 10) scLaw.nd rfl (Or.inl rfl)) (pgs_cons (pg_name (i := 11) scLaw.nd rfl (Or.inl rfl)) pgs_nil))))))
      (pss_cons (ps_set (i := 8) scLaw.nd rfl (Or.inl rfl) (pe_ix ix_list (pe_call0 CK.ok (hr.mono (by decide)) rfl CK.nm CK.kp CK.bd .nil pass0) (pv 8) (fun _ _ => rfl)))
      (pss_cons (ps_set (i := 12) scLaw.nd rfl (Or.inl rfl) (pe_ix ix_list (pe_lst (pa_kons (pv 9) (pa_kons (pe_callB (call_min2 rfl) (by rfl) N.min PyProof.Rows.Boot.«min» (pa_kons pe_int (pa_kons (pe_op op_add (pv 9) (pe_op op_mod (pv 10) pe_int)) pa_nil))) (pa_kons (pe_callB (call_min2 rfl) (by rfl) N.min PyProof.Rows.Boot.«min» (pa_kons pe_int (pa_kons (pe_op op_add (pv 9) (pv 10)) pa_nil))) (pa_kons pe_int pa_nil))))) (pv 11) (fun _ _ => rfl)))
      (pss_cons (ps_if (pt_cmpR op_eq (pv 11) pe_int (nomark _)) (pss_one (ps_set (i := 9) scLaw.nd rfl (Or.inl rfl) (pe_op op_mul (pe_op op_mod (pv 9) pe_int) (pv 9)))) pss_nil)
      (pss_cons (ps_if (pt_not (pt_val (pe_call CI.ok (hr.mono (by decide)) rfl CI.nm CI.kp CI.bd .nil pass0 (pa_kons (pv 1) (pa_kons (pv 2) (pa_kons (pv 5) (pa_kons (pe_dget hu (pv 6) (pv 8) (fun _ _ => rfl)) (pa_kons (pv 8) (pa_kons (pv 9) (pa_kons (pv 12) pa_nil)))))))))) (pss_one (ps_ret pe_bl)) pss_nil)
      (pss_one (ps_if (pt_cmpR (op_neSameT hr.units) (pe_meth (pv 3) MM.cl MM.mt MM.ok (hr.mono (by decide)) MM.bd MM.dv pass0 (pa_kons (pv 8) (pa_kons (pv 9) (pa_kons (pv 12) pa_nil)))) (pe_meth (pv 1) MM.cl MM.mt MM.ok (hr.mono (by decide)) MM.bd MM.dv pass0 (pa_kons (pv 8) (pa_kons (pv 9) (pa_kons (pv 12) pa_nil)))) (nomark _)) (pss_one (ps_ret pe_bl)) pss_nil))))))))
      (pss_one (ps_ret pe_bl))))))))), ?_⟩
    refine rd_seq (rd_asg ⟨_, rfl, sa, ns, rfl, hS, h63, fun t p q a M I J n kvs H1 g1 et hk hl hnm hky hN => ?_⟩)
    refine ⟨t, _, rfl, SqT.of et, rfl, _, _, rfl, _, _, rfl, rfl, ?_⟩
    dsimp only [gName]
    refine rd_seq (rd_if ⟨_, rfl, _, rfl, iteF (rd_next ?_)⟩)
    dsimp only
    refine rd_seq (rd_asg fun po dxo npo ndxo hdxo => ⟨po, dxo, rfl, upd_same, fun ao Hs fr2 kp2 hO => ⟨rfl, ?_⟩⟩)
    have gs : Grow H1 Hs := fun b o e => by
      have hb : b ≠ po := ne_of_none e npo
      exact kp2 b o (by rw [upd_ne hb, upd_ne (ne_of_none e ndxo)]; exact e) hb
    have fo : ∀ b, mm ao (ini ao) b → H1 b = none := fun b hb => by
      have hn := fr2 b hb
      by_cases z : b = po
      · rw [z]; exact npo
      · by_cases z2 : b = dxo
        · rw [z2]; exact ndxo
        · rw [upd_ne z, upd_ne z2] at hn
          exact hn
    dsimp only [gName]
    have hks := hk.grow gs
    refine rd_seq ⟨_, rfl, q, kvs, J.map (·.1), rfl, .inl hks.kq, kp_keys hks.kp, by rw [List.length_map]; exact hk.lj, fun ls os nls pm so => ?_⟩
    obtain ⟨g4, e4⟩ := laid (o := .lst (os.map V.str)) nls
    have nls' : ¬ mm ao (ini ao) ls := fun z => fresh_not hO nls z
    generalize upd Hs ls _ = H4 at g4 e4 ⊢
    have g14 := gs.trans g4
    have hO4 := hO.keep g4
    have hos : os.length = J.length := by rw [pm.length_eq, List.length_map]
    have ond : os.Nodup := pm.nodup_iff.mpr hk.nd
    have hIJ := ix_perm hk.ix.nd hk.nd hk.eq
    have hJl : J.length < 40 := by rw [← hIJ.length_eq]; exact hl
    refine ⟨ls, rfl, ⟨_, SqL.of e4⟩, for_list (K := K) (a := ls) (xs := os.map V.str) (OtI C H1 H4 sa p q po ls ao J os)
      ⟨ini ao, [], 0, none, none, none, none, none, none, none, none, none, rfl, hO4, Fr2.refl, fun o => by rw [List.take_zero]; rfl, Nat.le_refl _, Nat.zero_le _⟩ (fun i σ H2 _ hh => ?_) (fun i x σ H2 hi hh => ?_) fun σ H2 hh => ?_⟩
    · obtain ⟨Mo, IO, NN, v4, v5, v6, v7, v8, v9, v10, v11, v12, rfl, h2, h3, h4, h5, h6⟩ := hh
      exact SqL.of (h3.keep _ _ e4 nls')
    · obtain ⟨Mo, IO, NN, v4, v5, v6, v7, v8, v9, v10, v11, v12, rfl, h2, h3, h4, h5, h6⟩ := hh
      rw [List.getElem?_map] at hi
      obtain ⟨o, ho, rfl⟩ := Option.map_eq_some_iff.mp hi
      have hi40 : i < 40 := by have := (List.getElem?_eq_some_iff.mp ho).1; omega
      have g12 : Grow H1 H2 := fun b u e => h3.keep _ _ (g14 _ _ e) fun z => by rw [fo b z] at e; cases e
      have hk2 := hk.grow g12
      have hoJ : o ∈ J.map (·.1) := pm.mem_iff.mp (List.mem_of_getElem? ho)
      obtain ⟨⟨o', bs⟩, hx, rfl⟩ := List.mem_map.mp hoJ
      have hlJ : look J o' = some bs := mem_look hk.nd hx
      obtain ⟨y1, y2, y3⟩ := hky _ hx
      have y1 : o' ∈ owners12 := y1
      have y2 : bs.length ≤ 400 := y2
      have y3 : ∀ r ∈ bs, BxOk r ∧ r.1 ∈ keys4 := y3
      have hkl := kp_look hk2.kp o'
      rcases hkl with ⟨_, z2⟩ | ⟨la, bs', z1, ⟨ps, eps, rps⟩, z2⟩
      · rw [hlJ] at z2; cases z2
      · rw [hlJ] at z2
        cases z2
        dsimp only [gName, List.set_cons_zero, List.set_cons_succ]
        obtain ⟨dx, hob⟩ := h2.ob
        have gt : DGet H2 q (.str o') (some (.ref la)) := by rw [← z1]; exact DGet.k (k := Sum.inr o') hk2.kq
        refine rd_expr ⟨_, rfl, po, dx, _, rfl, hob, if_no ao (by decide +kernel) (by decide +kernel) (by decide +kernel), _, rfl, _, rfl, _, rfl, q, _, rfl, gt, la, _, rfl, SqL.of eps, fun ln nln => ?_⟩
        rw [← List.map_reverse]
        obtain ⟨g5, e5⟩ := laid (o := .lst (ps.reverse.map V.ref)) nln
        have mln : ¬ Mo ln := fun z => fresh_not h2 nln (.inr z)
        generalize upd H2 ln _ = H5 at g5 e5 ⊢
        refine ⟨po, ao, Mo, IO, NN, o', ln, bs.reverse, rfl, h2.keep g5, own_good y1, ⟨ps.reverse, e5, paired_rev (Paired.mapP rps fun _ _ e => g5 _ _ e)⟩, mln, fun x hx => (y3 x (List.mem_reverse.mp hx)).1, by rw [List.length_reverse]; exact y2, by rw [List.length_reverse]; omega, fun H6 M6 f6 h6' => ?_⟩
        refine ⟨M6, _, _, _, _, _, _, _, _, _, _, _, rfl, h6', h3.trans ((Fr2.grow (M := mm ao Mo) g5).trans f6.fr), fun o2 => ?_, ?_, ?_⟩
        · rw [look_snoc _ _ _ _ (by rw [look_drop, if_pos rfl]), look_drop, h4, List.take_add_one, ho]
          show (if o2 = o' then some bs.reverse else if o2 = o' then none else _) = if o2 ∈ os.take i ++ [o'] then _ else _
          by_cases z : o2 = o'
          · rw [if_pos z, if_pos (List.mem_append_right _ (List.mem_singleton.mpr z)), z, hlJ]; rfl
          · rw [if_neg z, if_neg z]
            by_cases z3 : o2 ∈ os.take i
            · rw [if_pos z3, if_pos (List.mem_append_left _ z3)]
            · rw [if_neg z3, if_neg (fun z4 => (List.mem_append.mp z4).elim z3 fun z5 => z (List.mem_singleton.mp z5))]
        · rw [List.length_append, List.length_singleton]
          have := Nat.le_trans (List.length_filter_le (fun x : Str × List RwB => decide (x.1 ≠ o')) IO) h5
          show (dropI IO o').length + 1 ≤ i + 1
          unfold dropI
          omega
        · rw [List.length_reverse]; omega
    · obtain ⟨Mo, IO, NN, v4, v5, v6, v7, v8, v9, v10, v11, v12, rfl, h2, h3, h4, h5, h6⟩ := hh
      dsimp only
      rw [List.length_map] at h4 h5
      rw [List.take_length] at h4
      have g12 : Grow H1 H2 := fun b u e => h3.keep _ _ (g14 _ _ e) fun z => by rw [fo b z] at e; cases e
      have hk2 := hk.grow g12
      have hIO : IO.Perm (revJ J) := ix_perm h2.nd (by rw [revJ_keys]; exact hk.nd) fun o => by
        rw [h4, look_rev]
        by_cases z : o ∈ os
        · rw [if_pos z]
        · rw [if_neg z, look_none.mpr (fun z2 => z (pm.mem_iff.mpr z2))]; rfl
      have hAll : (alls IO).Perm (alls I) := (alls_perm hIO).trans ((alls_rev J).trans (alls_perm hIJ).symm)
      have hbl : (bsOf J).length ≤ 100000 := by
        rw [← alls_snd, List.length_map, ← (alls_perm hIJ).length_eq]
        have := hk.ix.ws.ln
        omega
      have hok : ∀ x ∈ J, ∀ r ∈ x.2, DayOk r := fun x hx r hr => ((hky x hx).2.2 r hr).1.day
      refine rd_seq (rd_asg ⟨_, rfl, q, kvs, J, rfl, hk2.kq, hk2.kp, hk.nd, hok, hbl, fun kn kd H3 nkn g3 ekn hkd => ?_⟩)
      dsimp only [gName, List.set_cons_zero, List.set_cons_succ]
      have hk3 := hk2.grow g3
      refine rd_seq (rd_asg ⟨_, rfl, _, rfl, q, kn, kvs, J, kd, rfl, hk3.kq, hk3.kp, hk.nd, hok, hky, hbl, ekn, hkd, fun td te H5 g5 hTh => ?_⟩)
      dsimp only [gName, List.set_cons_zero, List.set_cons_succ]
      have hk5 := hk3.grow g5
      have hO5 := h2.keep (g3.trans g5)
      have ekn5 := g5 _ _ ekn
      have hS5 : SqL K H5 sa (ns.map V.int) := by
        have gg : Grow H H5 := g1.trans (g12.trans (g3.trans g5))
        rcases hS with (e | ⟨o, e⟩) | e
        · exact .inl (.inl (gg _ _ e))
        · exact .inl (.inr ⟨o, gg _ _ e⟩)
        · exact .inr e
      obtain ⟨ms, ems, hms⟩ := cutI ns (some 31) (some 61)
      refine rd_seq ⟨_, rfl, _, rfl, _, rfl, sa, _, rfl, hS5, fun l2 nl2 => ?_⟩
      rw [ems]
      obtain ⟨g6, e6⟩ := laid (o := .lst (ms.map V.int)) nl2
      generalize upd H5 l2 _ = H6 at g6 e6 ⊢
      refine ⟨by show 2 ≤ sizeLine; decide, fun l3 nl3 => ?_⟩
      obtain ⟨g7, e7⟩ := laid (o := .lst [V.int 0, V.int 5]) nl3
      generalize upd H6 l3 _ = H7 at g7 e7 ⊢
      refine ⟨l2, l3, _, _, rfl, rfl, g7 _ _ e6, e7, by rw [List.length_map]; exact Nat.le_of_lt (small1000 (by show _ + 2 ≤ 1000; omega)), fun lc nlc => ?_⟩
      obtain ⟨g8, e8⟩ := laid (o := .lst (ms.map V.int ++ [V.int 0, V.int 5])) nlc
      generalize upd H7 lc _ = H8 at g8 e8 ⊢
      have g58 : Grow H5 H8 := g6.trans (g7.trans g8)
      have hk8 := hk5.grow g58
      have hO8 := hO5.keep g58
      have ekn8 := g58 _ _ ekn5
      have hTh8 : ThA H3 H8 td te keys4 (FJ (bsOf J)) (9 * (bsOf J).length) := hTh.keep (fun b x e _ => g58 _ _ e) (fun _ _ => Iff.rfl) (Nat.le_refl _)
      have hcs : ∀ x ∈ ms.map V.int ++ [V.int 0, V.int 5], ∃ c, x = V.int c := fun x hx => by
        rcases List.mem_append.mp hx with hx | hx
        · obtain ⟨c, _, rfl⟩ := List.mem_map.mp hx; exact ⟨c, rfl⟩
        · rcases List.mem_cons.mp hx with hx | hx
          · exact ⟨0, hx⟩
          · exact ⟨5, List.mem_singleton.mp hx⟩
      generalize ms.map V.int ++ [V.int 0, V.int 5] = cs at e8 hcs ⊢
      refine ⟨lc, rfl, ⟨_, SqL.of e8⟩, for_list (K := K) (a := lc) (xs := cs) (LaI H8 sa p q po kn td)
        ⟨_, _, _, _, _, _, _, rfl, fun _ _ e => e⟩ (fun i σ H9 _ hh => ?_) (fun i x σ H9 hi hh => ?_) fun σ H9 hh => ?_⟩
      · obtain ⟨v4, v7, v8, v9, v10, v11, v12, rfl, g9⟩ := hh
        exact SqL.of (g9 _ _ e8)
      · obtain ⟨v4, v7, v8, v9, v10, v11, v12, rfl, g9⟩ := hh
        obtain ⟨c, rfl⟩ := hcs x (List.mem_of_getElem? hi)
        dsimp only [gName, List.set_cons_zero, List.set_cons_succ]
        refine rd_seq (rd_asg ⟨_, rfl, _, rfl, c, rfl, fun d => ⟨by show 4 ≤ sizeLine; decide, fun l4 nl4 => ?_⟩⟩)
        obtain ⟨ga, ea⟩ := laid (o := .lst [V.int 4, V.int 400, V.int 400, V.int 4]) nl4
        generalize upd H9 l4 _ = Ha at ga ea ⊢
        refine ⟨c, d, l4, [4, 400, 400, 4], rfl, ea, by decide, by decide, fun l5 Hb ns5 nl5 gb eb hlen hB => ?_⟩
        obtain ⟨kx, fi, mo, wy, rfl⟩ : ∃ kx fi mo wy, ns5 = [kx, fi, mo, wy] := by
          match ns5, hlen with
          | [x, y, z, w], _ => exact ⟨x, y, z, w, rfl⟩
        have b1 := hB 0 kx 4 rfl rfl
        have b2 := hB 1 fi 400 rfl rfl
        have b3 := hB 2 mo 400 rfl rfl
        have b4 := hB 3 wy 4 rfl rfl
        refine ⟨l5, _, rfl, SqL.of eb, rfl, _, _, rfl, _, _, rfl, _, _, rfl, _, _, rfl, rfl, ?_⟩
        dsimp only [gName, List.set_cons_zero, List.set_cons_succ]
        refine rd_seq (rd_asg ⟨rfl, fun lk nlk => ?_⟩)
        obtain ⟨gc, ec⟩ := laid (o := .lst (keys4.map V.str)) nlk
        generalize upd Hb lk _ = He at gc ec ⊢
        obtain ⟨k, hkk, ek⟩ := at_nth (ys := keys4) b1.1 b1.2
        refine ⟨_, rfl, lk, keys4.map V.str, _, _, rfl, rfl, SqL.of ec, ek, ?_⟩
        dsimp only [gName, List.set_cons_zero, List.set_cons_succ]
        refine rd_seq (rd_asg ⟨_, rfl, _, rfl, _, rfl, _, _, rfl, rfl, by decide, _, _, rfl, rfl, _, _, rfl, _, rfl, _, rfl, _, _, rfl, rfl, _, _, rfl, by show 4 ≤ sizeLine; decide, fun l8 nl8 => ?_⟩)
        obtain ⟨gf, ef⟩ := laid (o := .lst [V.int fi, V.int (if fi + mo % 12 < 399 then fi + mo % 12 else 399), V.int (if fi + mo < 399 then fi + mo else 399), V.int 399]) nl8
        generalize upd He l8 _ = Hf at gf ef ⊢
        obtain ⟨la, ela, l1, l2'⟩ := last_ok b2.1 b2.2 b3.1 b4.1 b4.2
        refine ⟨_, rfl, l8, _, _, _, rfl, rfl, SqL.of ef, ela, ?_⟩
        dsimp only [gName, List.set_cons_zero, List.set_cons_succ]
        have g9f : Grow H8 Hf := g9.trans (ga.trans (gb.trans (gc.trans gf)))
        refine rd_cut (fun σ' H' => ∃ f', 0 ≤ f' ∧ f' ≤ fi ∧ H' = Hf ∧ σ' = [some (.ref sa), some (.ref p), some (.ref q), some (.ref po), v4, some (.ref kn), some (.ref td), some (.int c), some (.str k), some (.int f'), some (.int mo), some (.int wy), some (.int la)]) (fun R hR => ?_) (fun σ' H' hp => ?_)
        · refine rd_if ⟨_, rfl, rfl, _, rfl, ite2 (fun _ => ?_) fun _ => rd_next (hR _ _ ⟨fi, b2.1, Int.le_refl _, rfl, rfl⟩)⟩
          refine rd_asg ⟨_, rfl, _, _, rfl, rfl, by decide, _, rfl, _, _, rfl, rfl, .inl ⟨?_, ?_⟩, hR _ _ ⟨fi % 2 * fi, (par_ok b2.1).1, (par_ok b2.1).2, rfl, rfl⟩⟩
          · omega
          · omega
        · obtain ⟨f', f0, f1, rfl, rfl⟩ := hp
          have hkf := hk8.grow g9f
          have hThf : ThA H3 H' td te keys4 (FJ (bsOf J)) (9 * (bsOf J).length) := hTh8.keep (fun b x e _ => g9f _ _ e) (fun _ _ => Iff.rfl) (Nat.le_refl _)
          obtain ⟨dd, es, d1, d2, _, _, _, d6⟩ := hThf.ex k hkk
          have hnk : ∀ H, NameV K H (.str k) true := fun _ => .at (keys4_ok k hkk).1 (keys4_ok k hkk).2
          have gtd : DGet H' td (.str k) (some (.ref dd)) := by rw [← d1]; exact DGet.k (k := Sum.inr k) hThf.et
          refine rd_seq (rd_if ⟨_, rfl, _, rfl, _, rfl, _, rfl, _, rfl, td, _, rfl, gtd, _, rfl, _, rfl, _, rfl, p, q, kn, dd, a, M, I, J, n, kvs, es, kd, k, f', la, rfl, hkf, g9f _ _ ekn8, hkd, d2, d6, hok, hbl, hnk, f0, Int.le_trans f1 l1, l2', fun Hx gx => ⟨_, rfl, iteF (rd_next ?_)⟩⟩)
          dsimp only
          have hOx := hO8.keep (g9f.trans gx)
          have hkx := hkf.grow gx
          obtain ⟨dx1, ho1⟩ := hOx.ob
          refine rd_if ⟨_, rfl, po, dx1, _, rfl, ho1, if_no ao (by decide +kernel) (by decide +kernel) (by decide +kernel), _, rfl, _, rfl, _, rfl, po, ao, Mo, IO, NN, k, f', la, rfl, hOx, hnk _, f0, Int.le_trans f1 l1, l2', by omega, fun t1 lo1 Hy os1 gy nlo1 et1 elo1 so1 nd1 hm1 => ?_⟩
          have hky' := hkx.grow gy
          obtain ⟨dx2, ho2⟩ := hky'.ix.ob
          refine ⟨_, rfl, p, dx2, _, rfl, ho2, if_no a (by decide +kernel) (by decide +kernel) (by decide +kernel), _, rfl, _, rfl, _, rfl, p, a, M, I, n, k, f', la, rfl, hky'.ix, hnk _, f0, Int.le_trans f1 l1, l2', hk.li, fun t2 lo2 Hz os2 gz nlo2 et2 elo2 so2 nd2 hm2 => ?_⟩
          have eos : os1 = os2 := sorted_eq so1 so2 ((List.perm_ext_iff_of_nodup nd1 nd2).mpr fun o => (hm1 o).trans ((meets_perm hAll k f' la o).trans (hm2 o).symm))
          subst eos
          rw [looked_perm hAll] at et1
          exact ⟨t1, t2, lo1, lo2, _, _, rfl, rfl, gz _ _ et1, et2, gz _ _ elo1, elo2, plain_ss _, _, rfl, iteF (rd_next ⟨_, _, _, _, _, _, _, rfl, g9f.trans (gx.trans (gy.trans gz))⟩)⟩
      · obtain ⟨v4, v7, v8, v9, v10, v11, v12, rfl, g9⟩ := hh
        dsimp only
        refine rd_ret ?_
        exact hq _
end
end Mine
namespace Mine
open PySem L2
theorem ar1 {P : List Value → Prop} (h : ∀ a, P [a]) : ∀ us : List Value, us.length = 1 → P us := fun us e => by
  obtain ⟨a, rfl⟩ := List.length_eq_one_iff.mp e
  exact h a
theorem ar2 {P : List Value → Prop} (h : ∀ x1 x2, P [x1, x2]) (us : List Value) (e : us.length = 2) : P us := by
  cases us with
  | nil => cases e
  | cons a t => exact ar1 (P := fun t => P (a :: t)) (fun x1 => h a x1) t (Nat.succ.inj e)
theorem ar3 {P : List Value → Prop} (h : ∀ x1 x2 x3, P [x1, x2, x3]) (us : List Value) (e : us.length = 3) : P us := by
  cases us with
  | nil => cases e
  | cons a t => exact ar2 (P := fun t => P (a :: t)) (fun x1 x2 => h a x1 x2) t (Nat.succ.inj e)
theorem ar4 {P : List Value → Prop} (h : ∀ x1 x2 x3 x4, P [x1, x2, x3, x4]) (us : List Value) (e : us.length = 4) : P us := by
  cases us with
  | nil => cases e
  | cons a t => exact ar3 (P := fun t => P (a :: t)) (fun x1 x2 x3 => h a x1 x2 x3) t (Nat.succ.inj e)
theorem ar5 {P : List Value → Prop} (h : ∀ x1 x2 x3 x4 x5, P [x1, x2, x3, x4, x5]) (us : List Value) (e : us.length = 5) : P us := by
  cases us with
  | nil => cases e
  | cons a t => exact ar4 (P := fun t => P (a :: t)) (fun x1 x2 x3 x4 => h a x1 x2 x3 x4) t (Nat.succ.inj e)
theorem ar6 {P : List Value → Prop} (h : ∀ x1 x2 x3 x4 x5 x6, P [x1, x2, x3, x4, x5, x6]) (us : List Value) (e : us.length = 6) : P us := by
  cases us with
  | nil => cases e
  | cons a t => exact ar5 (P := fun t => P (a :: t)) (fun x1 x2 x3 x4 x5 => h a x1 x2 x3 x4 x5) t (Nat.succ.inj e)
theorem ar7 {P : List Value → Prop} (h : ∀ x1 x2 x3 x4 x5 x6 x7, P [x1, x2, x3, x4, x5, x6, x7]) (us : List Value) (e : us.length = 7) : P us := by
  cases us with
  | nil => cases e
  | cons a t => exact ar6 (P := fun t => P (a :: t)) (fun x1 x2 x3 x4 x5 x6 => h a x1 x2 x3 x4 x5 x6) t (Nat.succ.inj e)
abbrev sXI1 : Stmt := inClass (top 4) 0
section
variable {P : Program} {w : World} {K : PySem.W.Frag} {mg : Str → Option Value} {base : Heap}
theorem scXI1 : FnScope ["self", "name"] ["self", "name"] (defScope sXI1) := ⟨rfl, rfl, rfl, by decide +kernel, rfl, by decide +kernel, by decide +kernel⟩
theorem ok_xi1 {f : Addr} {fd : FuncData} (F : Fun K "__init__" "NoName.__init__" sXI1 f fd) : FnOk P w K mg base CX0 1 f fd ["self", "name"] (spXI K "name") := by
  refine F.ok (k := 0) scXI1 (fun vs H Q E h => ?_) (fun cdv A outer s H vs Q E hr h => ?_)
  · obtain ⟨e, C, U, v, rfl, _⟩ := h
    rfl
  · obtain ⟨e, C, U, v, rfl, he, T, hn, hq⟩ := h
    exact ⟨_, pss_one (ps_xfld (pv 0) (pv 1) rfl), _, rfl, _, rfl, e, C, U, rfl, he, T, hn, hq⟩
end
theorem all_mk {l : PySem.W.OpenLaw} {w : World} {K : PySem.W.Frag} {h : Heap} {mg : Str → Option Value} {fa C U f1 f2 f3 f4 f5 f6 f7 f8 f9 f10 f11 f12 f13 f14 f15 f16 f17 f18 f19 f20 f21 f22 f23 f24 f25 f26 f27 f28 f29 f30 f31 f32 f33 f34 f35 f36 f37 c1 c2 g1 : Addr} {d1 d2 d3 d4 d5 d6 d7 d8 d9 d10 d11 d12 d13 d14 d15 d16 d17 d18 d19 d20 d21 d22 d23 d24 d25 d26 d27 d28 d29 d30 d31 d32 d33 d34 d35 d36 d37 y1 : FuncData} (X : K.In h) (G : h.Ns mainGlobals mg) (hfa : mg "law" = some (.ref fa))
    (aU : PySem.W.nsIn K mainGlobals "UnsayError" = some (some (.ref U))) (aC : PySem.W.nsIn K mainGlobals "Index" = some (some (.ref C)))
    (a1 : PySem.W.nsIn K mainGlobals "law" = some (some (.ref f1))) (F1 : Fun K "law" "law" sLaw f1 d1)
    (a2 : PySem.W.nsIn K mainGlobals "_law_wide" = some (some (.ref f2))) (F2 : Fun K "_law_wide" "_law_wide" sWide f2 d2)
    (a3 : PySem.W.nsIn K mainGlobals "_law_numbers" = some (some (.ref f3))) (F3 : Fun K "_law_numbers" "_law_numbers" sNumbers f3 d3)
    (a4 : PySem.W.nsIn K mainGlobals "_law_mix" = some (some (.ref f4))) (F4 : Fun K "_law_mix" "_law_mix" sMix f4 d4)
    (a5 : PySem.W.nsIn K mainGlobals "_law_keys" = some (some (.ref f5))) (F5 : Fun K "_law_keys" "_law_keys" sKeys f5 d5)
    (a6 : PySem.W.nsIn K mainGlobals "_law_told" = some (some (.ref f6))) (F6 : Fun K "_law_told" "_law_told" sFilled f6 d6)
    (a7 : PySem.W.nsIn K mainGlobals "_law_owners" = some (some (.ref f7))) (F7 : Fun K "_law_owners" "_law_owners" sOwnersL f7 d7)
    (a8 : PySem.W.nsIn K mainGlobals "_law_boxes" = some (some (.ref f8))) (F8 : Fun K "_law_boxes" "_law_boxes" sBoxesL f8 d8)
    (a9 : PySem.W.nsIn K mainGlobals "_law_rest" = some (some (.ref f9))) (F9 : Fun K "_law_rest" "_law_rest" sRest f9 d9)
    (a10 : PySem.W.nsIn K mainGlobals "_law_cell_at" = some (some (.ref f10))) (F10 : Fun K "_law_cell_at" "_law_cell_at" sCellAt f10 d10)
    (a11 : PySem.W.nsIn K mainGlobals "_law_spoilt" = some (some (.ref f11))) (F11 : Fun K "_law_spoilt" "_law_spoilt" sSpoilt f11 d11)
    (a12 : PySem.W.findIn K (.ref C) "put" = some (some (.ref f12))) (i12 : PySem.W.isFn K (.ref f12) = true) (F12 : Fun K "put" "Index.put" sPut f12 d12)
    (a13 : PySem.W.nsIn K mainGlobals "is_owner" = some (some (.ref f13))) (F13 : Fun K "is_owner" "is_owner" sOwner f13 d13)
    (a14 : PySem.W.nsIn K mainGlobals "are_boxes" = some (some (.ref f14))) (F14 : Fun K "are_boxes" "are_boxes" sAreBoxes f14 d14)
    (a15 : PySem.W.nsIn K mainGlobals "is_box" = some (some (.ref f15))) (F15 : Fun K "is_box" "is_box" sIsBox f15 d15)
    (a16 : PySem.W.nsIn K mainGlobals "is_whole" = some (some (.ref f16))) (F16 : Fun K "is_whole" "is_whole" sIsWhole f16 d16)
    (a17 : PySem.W.nsIn K mainGlobals "is_day" = some (some (.ref f17))) (F17 : Fun K "is_day" "is_day" sIsDay f17 d17)
    (a18 : PySem.W.nsIn K mainGlobals "is_name" = some (some (.ref f18))) (F18 : Fun K "is_name" "is_name" sName f18 d18)
    (a19 : PySem.W.nsIn K mainGlobals "has_only" = some (some (.ref f19))) (F19 : Fun K "has_only" "has_only" sHas f19 d19)
    (a20 : PySem.W.findIn K (.ref C) "put_all" = some (some (.ref f20))) (i20 : PySem.W.isFn K (.ref f20) = true) (F20 : Fun K "put_all" "Index.put_all" sPutAll f20 d20)
    (a21 : PySem.W.findIn K (.ref C) "take" = some (some (.ref f21))) (i21 : PySem.W.isFn K (.ref f21) = true) (F21 : Fun K "take" "Index.take" sTake f21 d21)
    (a22 : PySem.W.findIn K (.ref C) "has" = some (some (.ref f22))) (i22 : PySem.W.isFn K (.ref f22) = true) (F22 : Fun K "has" "Index.has" sHasO f22 d22)
    (a23 : PySem.W.findIn K (.ref C) "remove_box" = some (some (.ref f23))) (i23 : PySem.W.isFn K (.ref f23) = true) (F23 : Fun K "remove_box" "Index.remove_box" sRemove f23 d23)
    (a24 : PySem.W.nsIn K mainGlobals "way_to" = some (some (.ref f24))) (F24 : Fun K "way_to" "way_to" sWay f24 d24)
    (a25 : PySem.W.nsIn K mainGlobals "knots_below" = some (some (.ref f25))) (F25 : Fun K "knots_below" "knots_below" sBelow f25 d25)
    (a26 : PySem.W.findIn K (.ref C) "place_box" = some (some (.ref f26))) (i26 : PySem.W.isFn K (.ref f26) = true) (F26 : Fun K "place_box" "Index.place_box" sPlace f26 d26)
    (a27 : PySem.W.findIn K (.ref C) "__init__" = some (some (.ref f27))) (i27 : PySem.W.isFn K (.ref f27) = true) (F27 : Fun K "__init__" "Index.__init__" sInit f27 d27)
    (a28 : PySem.W.nsIn K mainGlobals "_law_knots" = some (some (.ref f28))) (F28 : Fun K "_law_knots" "_law_knots" sKnots f28 d28)
    (a29 : PySem.W.nsIn K mainGlobals "_law_knot" = some (some (.ref f29))) (F29 : Fun K "_law_knot" "_law_knot" sKnot f29 d29)
    (a30 : PySem.W.nsIn K mainGlobals "_law_twos" = some (some (.ref f30))) (F30 : Fun K "_law_twos" "_law_twos" sTwos f30 d30)
    (a31 : PySem.W.nsIn K mainGlobals "_law_there" = some (some (.ref f31))) (F31 : Fun K "_law_there" "_law_there" sThere f31 d31)
    (a32 : PySem.W.nsIn K mainGlobals "_law_above" = some (some (.ref f32))) (F32 : Fun K "_law_above" "_law_above" sAbove f32 d32)
    (a33 : PySem.W.nsIn K mainGlobals "_law_right" = some (some (.ref f33))) (F33 : Fun K "_law_right" "_law_right" sRight f33 d33)
    (a34 : PySem.W.nsIn K mainGlobals "_law_looked" = some (some (.ref f34))) (F34 : Fun K "_law_looked" "_law_looked" sLook3 f34 d34)
    (a35 : PySem.W.findIn K (.ref C) "meeting" = some (some (.ref f35))) (i35 : PySem.W.isFn K (.ref f35) = true) (F35 : Fun K "meeting" "Index.meeting" sMeeting f35 d35)
    (a36 : PySem.W.nsIn K mainGlobals "check_stretch" = some (some (.ref f36))) (F36 : Fun K "check_stretch" "check_stretch" sCheck f36 d36)
    (a37 : PySem.W.findIn K (.ref C) "looked_at" = some (some (.ref f37))) (i37 : PySem.W.isFn K (.ref f37) = true) (F37 : Fun K "looked_at" "Index.looked_at" sLooked f37 d37)
    (cm1 : PySem.W.nsIn K mainGlobals "NoName" = some (some (.ref c1))) (T1 : XCls K c1 U) (ia1 : PySem.W.findIn K (.ref c1) "__init__" = some (some (.ref g1))) (ii1 : PySem.W.isFn K (.ref g1) = true) (I1 : Fun K "__init__" "NoName.__init__" sXI1 g1 y1) (nf1 : PySem.W.findIn K (.ref c1) "name" = some none) (hc1 : hIn K c1 = true) (nc1U : c1 ≠ U)
    (cm2 : PySem.W.nsIn K mainGlobals "NoBox" = some (some (.ref c2))) (T2 : XCls K c2 U) (ia2 : PySem.W.findIn K (.ref c2) "__init__" = some (some (.builtin "ValueError.__init__"))) (hc2 : hIn K c2 = true) (nc2U : c2 ≠ U)
    (nc1c2 : c1 ≠ c2)
    (nc2c1 : c2 ≠ c1)
    (TB : IxC K C) (mk : PySem.W.makesIn K C = true) (kc : PySem.W.keepIn K (.ref C) = true)
    {tq1 tq2 tq3 tq4 tq5 tq6 : Tok} (q1 : PySem.W.nsIn K mainGlobals "LETTERS" = some (some (.str letZ tq1))) (q2 : PySem.W.nsIn K mainGlobals "MOST_LETTERS" = some (some (.int 8 tq2))) (q3 : PySem.W.nsIn K mainGlobals "LAST_DAY" = some (some (.int 399 tq3))) (q4 : PySem.W.nsIn K mainGlobals "TOP" = some (some (.int 256 tq4))) (q5 : PySem.W.nsIn K mainGlobals "MOST_SIGNS" = some (some (.int 400 tq5))) (q6 : PySem.W.nsIn K mainGlobals "MOST_BOXES" = some (some (.int 400 tq6)))
    (z1 : PySem.W.nsIn K mainGlobals "len" = some none) (z2 : PySem.W.nsIn K mainGlobals "range" = some none) (z3 : PySem.W.nsIn K mainGlobals "sorted" = some none) (z4 : PySem.W.nsIn K mainGlobals "isinstance" = some none) (z5 : PySem.W.nsIn K mainGlobals "int" = some none) (z6 : PySem.W.nsIn K mainGlobals "bool" = some none) (z7 : PySem.W.nsIn K mainGlobals "str" = some none) (z8 : PySem.W.nsIn K mainGlobals "list" = some none) (z9 : PySem.W.nsIn K mainGlobals "tuple" = some none) (z10 : PySem.W.nsIn K mainGlobals "dict" = some none) (z11 : PySem.W.nsIn K mainGlobals "set" = some none) (z12 : PySem.W.nsIn K mainGlobals "max" = some none) (z13 : PySem.W.nsIn K mainGlobals "min" = some none) (z14 : PySem.W.nsIn K mainGlobals "all" = some none) (z15 : PySem.W.nsIn K mainGlobals "enumerate" = some none) (z16 : PySem.W.nsIn K mainGlobals "abs" = some none) (z17 : PySem.W.nsIn K mainGlobals "reversed" = some none) :
    ∃ fd : FuncData, (∀ (s : Shared) (v : Value), BindsTo s fd ⟨[v], []⟩ [("_law_script", v)]) ∧ ∀ base : Heap, K.In base → base.Ns mainGlobals mg → FnOk l.prog w K mg base CX0 9 fa fd ["_law_script"] (spLaw K C) := by
  have e := hfa.symm.trans (PySem.W.mg_of X G a1)
  cases e
  have N : Free mg := ⟨PySem.W.mg_none_of X G z1, PySem.W.mg_none_of X G z2, PySem.W.mg_none_of X G z3, PySem.W.mg_none_of X G z4, PySem.W.mg_none_of X G z5, PySem.W.mg_none_of X G z6, PySem.W.mg_none_of X G z7, PySem.W.mg_none_of X G z8, PySem.W.mg_none_of X G z9, PySem.W.mg_none_of X G z10, PySem.W.mg_none_of X G z11, PySem.W.mg_none_of X G z12, PySem.W.mg_none_of X G z13, PySem.W.mg_none_of X G z14, PySem.W.mg_none_of X G z15, PySem.W.mg_none_of X G z16, PySem.W.mg_none_of X G z17⟩
  have Z : Con mg := ⟨⟨_, PySem.W.mg_of X G q1⟩, ⟨_, PySem.W.mg_of X G q2⟩, ⟨_, PySem.W.mg_of X G q3⟩, ⟨_, PySem.W.mg_of X G q4⟩, ⟨_, PySem.W.mg_of X G q5⟩, ⟨_, PySem.W.mg_of X G q6⟩⟩
  have mC := PySem.W.mg_of X G aC
  have n1 := PySem.W.mg_of X G cm1
  have n2 := PySem.W.mg_of X G cm2
  obtain ⟨oc, od, kV, doc, pm, an, cdv, ct, osl, rfl, lk, hcd⟩ := id F1.ex
  refine ⟨PySem.W.fnOf "law" "law" (defArgs sLaw) (defBody sLaw) (defScope sLaw) .none kV doc pm an cdv ct, fun s v => .of_eq rfl, fun base hK hN => ?_⟩
  have ky : ∀ {x : Str} {k : Nat} {ps : List Str} {sp : Sp} {f : Addr} {fd : FuncData}, FnOk l.prog w K mg base CX0 k f fd ps sp → PySem.W.nsIn K mainGlobals x = some (some (.ref f)) → PySem.W.keepIn K (.ref f) = true → Binds K fd ps [] → Cal l.prog w K mg base x k ps sp f fd := fun a b c d => ⟨a, PySem.W.mg_of X G b, c, d⟩
  have kx : ∀ {x : Str} {k : Nat} {ps : List Str} {sp : Sp} {f : Addr} {fd : FuncData}, FnOk l.prog w K mg base (CXR l.prog w) k f fd ps sp → PySem.W.nsIn K mainGlobals x = some (some (.ref f)) → PySem.W.keepIn K (.ref f) = true → Binds K fd ps [] → CalX l.prog w K mg base x k ps sp f fd := fun a b c d => ⟨a, PySem.W.mg_of X G b, c, d⟩
  have km : ∀ {m : Str} {k : Nat} {ps : List Str} {ds : List Value} {dvs : List V} {sp : Sp} {f : Addr} {fd : FuncData}, FnOk l.prog w K mg base CX0 k f fd ps sp → PySem.W.findIn K (.ref C) m = some (some (.ref f)) → PySem.W.isFn K (.ref f) = true → PySem.W.keepIn K (.ref f) = true → Binds K fd ps ds → Vals dvs ds → MC l.prog w K mg base C m k ps ds dvs sp f fd := fun a b c d e g => ⟨TB.cl, ⟨b, c, d⟩, a, e, g⟩
  have kn : ∀ {m : Str} {k : Nat} {ps : List Str} {ds : List Value} {dvs : List V} {sp : Sp} {f : Addr} {fd : FuncData}, FnOk l.prog w K mg base (CXR l.prog w) k f fd ps sp → PySem.W.findIn K (.ref C) m = some (some (.ref f)) → PySem.W.isFn K (.ref f) = true → PySem.W.keepIn K (.ref f) = true → Binds K fd ps ds → Vals dvs ds → MCX l.prog w K mg base C m k ps ds dvs sp f fd := fun a b c d e g => ⟨TB.cl, ⟨b, c, d⟩, a, e, g⟩
  have R1 : Rf1 l.prog w K mg base "NoName" c1 U "name" g1 _ := ⟨ok_xi1 I1, n1, ia1, ii1, I1.binds fun _ _ _ _ _ _ => ar2 fun _ _ => rfl, T1, nf1⟩
  have R2 : Rf0 K mg "NoBox" c2 U := ⟨n2, ia2, T2⟩
  have K1 := ky (ok_wide F2 N) a2 F2.kp (F2.binds fun _ _ _ _ _ _ => ar1 fun _ => rfl)
  have K2 := ky (ok_mix F4 ) a4 F4.kp (F4.binds fun _ _ _ _ _ _ => ar2 fun _ _ => rfl)
  have K3 := ky (ok_numbers F3 N K2) a3 F3.kp (F3.binds fun _ _ _ _ _ _ => ar3 fun _ _ _ => rfl)
  have K4 := ky (ok_keys F5 ) a5 F5.kp (F5.binds fun _ _ _ _ _ _ us hl => match us, hl with | [], _ => rfl)
  have K5 := ky (ok_ownersL F7 ) a7 F7.kp (F7.binds fun _ _ _ _ _ _ us hl => match us, hl with | [], _ => rfl)
  have K6 := ky (ok_boxesL F8 N K3 K4) a8 F8.kp (F8.binds fun _ _ _ _ _ _ => ar2 fun _ _ => rfl)
  have K7 := ky (ok_rest F9 N K1 K2) a9 F9.kp (F9.binds fun _ _ _ _ _ _ => ar2 fun _ _ => rfl)
  have K8 := ky (ok_cellAt F10 N) a10 F10.kp (F10.binds fun _ _ _ _ _ _ => ar2 fun _ _ => rfl)
  have K9 := ky (ok_owner F13 N Z) a13 F13.kp (F13.binds fun _ _ _ _ _ _ => ar1 fun _ => rfl)
  have K10 := ky (ok_isWhole F16 N) a16 F16.kp (F16.binds fun _ _ _ _ _ _ => ar3 fun _ _ _ => rfl)
  have K11 := ky (ok_isDay F17 Z K10) a17 F17.kp (F17.binds fun _ _ _ _ _ _ => ar1 fun _ => rfl)
  have K12 := ky (ok_has F19 N) a19 F19.kp (F19.binds fun _ _ _ _ _ _ => ar3 fun _ _ _ => rfl)
  have K13 := ky (ok_name F18 N Z K12) a18 F18.kp (F18.binds fun _ _ _ _ _ _ => ar1 fun _ => rfl)
  have K14 := ky (ok_isBox F15 N Z K10 K11 K13) a15 F15.kp (F15.binds fun _ _ _ _ _ _ => ar1 fun _ => rfl)
  have K15 := ky (ok_areBoxes F14 N Z K14) a14 F14.kp (F14.binds fun _ _ _ _ _ _ => ar1 fun _ => rfl)
  have K16 := km (dvs := []) (ok_hasO F22 N TB) a22 i22 F22.kp (F22.binds fun _ _ _ _ _ _ => ar2 fun _ _ => rfl) .nil
  have K17 := ky (ok_below F25 ) a25 F25.kp (F25.binds fun _ _ _ _ _ _ => ar3 fun _ _ _ => rfl)
  have K18 := ky (ok_way F24 Z K17) a24 F24.kp (F24.binds fun _ _ _ _ _ _ => ar2 fun _ _ => rfl)
  have K19 := km (dvs := []) (ok_remove F23 TB K18) a23 i23 F23.kp (F23.binds fun _ _ _ _ _ _ => ar5 fun _ _ _ _ _ => rfl) .nil
  have K20 := km (dvs := []) (ok_take F21 TB K16 K19) a21 i21 F21.kp (F21.binds fun _ _ _ _ _ _ => ar2 fun _ _ => rfl) .nil
  have K21 := km (dvs := []) (ok_place F26 TB K18) a26 i26 F26.kp (F26.binds fun _ _ _ _ _ _ => ar5 fun _ _ _ _ _ => rfl) .nil
  have K22 := km (dvs := []) (ok_putAll F20 N TB K20 K21) a20 i20 F20.kp (F20.binds fun _ _ _ _ _ _ => ar3 fun _ _ _ => rfl) .nil
  have K23 := kn (dvs := []) (ok_putX F12 TB K9 K15 K22 R1 R2) a12 i12 F12.kp (F12.binds fun _ _ _ _ _ _ => ar3 fun _ _ _ => rfl) .nil
  have K24 := ky (ok_spoilt F11 K2 K6 K5 R2 hc2 K23) a11 F11.kp (F11.binds fun _ _ _ _ _ _ => ar2 fun _ _ => rfl)
  have K25 := km (dvs := []) (ok_put F12 TB K9 K15 K22) a12 i12 F12.kp (F12.binds fun _ _ _ _ _ _ => ar3 fun _ _ _ => rfl) .nil
  have K26 := ky (ok_filled F6 N K2 K5 K1 K3 K6 K7 K8 K24 K4 K20 K25 ⟨mk, a27, i27, kc⟩ (ok_init F27 TB) (F27.binds fun _ _ _ _ _ _ => ar1 fun _ => rfl) mC) a6 F6.kp (F6.binds fun _ _ _ _ _ _ => ar1 fun _ => rfl)
  have K27 := ky (ok_twos F30 ) a30 F30.kp (F30.binds fun _ _ _ _ _ _ => ar1 fun _ => rfl)
  have K28 := ky (ok_knot F29 N K27) a29 F29.kp (F29.binds fun _ _ _ _ _ _ => ar2 fun _ _ => rfl)
  have K29 := ky (ok_knots F28 K28) a28 F28.kp (F28.binds fun _ _ _ _ _ _ => ar1 fun _ => rfl)
  have K30 := ky (ok_above F32 K27) a32 F32.kp (F32.binds fun _ _ _ _ _ _ => ar1 fun _ => rfl)
  have K31 := ky (ok_there F31 K4 K30) a31 F31.kp (F31.binds fun _ _ _ _ _ _ => ar2 fun _ _ => rfl)
  have K32 := ky (ok_look3 F34 K27) a34 F34.kp (F34.binds fun _ _ _ _ _ _ => ar3 fun _ _ _ => rfl)
  have K33 := ky (ok_check F36 Z K10 K11) a36 F36.kp (F36.binds fun _ _ _ _ _ _ => ar2 fun _ _ => rfl)
  have K34 := km (dvs := []) (ok_looked F37 Z TB K17) a37 i37 F37.kp (F37.binds fun _ _ _ _ _ _ => ar4 fun _ _ _ _ => rfl) .nil
  have K35 := km (dvs := []) (ok_meeting F35 N TB K13 K33 K34) a35 i35 F35.kp (F35.binds fun _ _ _ _ _ _ => ar4 fun _ _ _ _ => rfl) .nil
  have K36 := ky (ok_right F33 N K32 K35) a33 F33.kp (F33.binds fun _ _ _ _ _ _ => ar7 fun _ _ _ _ _ _ _ => rfl)
  exact ok_law F1 N K1 K3 K4 K26 K29 K31 K36 K35 K25 ⟨mk, a27, i27, kc⟩ (ok_init F27 TB) (F27.binds fun _ _ _ _ _ _ => ar1 fun _ => rfl) mC
theorem walk {l : PySem.W.OpenLaw} {q : Program} {loose : List Str} {XP : (Str → Option Value) → Heap → Prop} {YP : World → Heap → Prop} {d : DefRec} {K : Params → PySem.W.Frag} {C : Addr} (hn : l.most = some 63) (hdf : d.params.defaults = [])
    (hY : ∀ (w : World) (h : Heap), YP w h → (K w.params).In h)
    (F : ∀ (w : World) (mg : Str → Option Value) (fa : Addr) (h : Heap), (K w.params).In h → h.Ns mainGlobals mg → mg d.name = some (.ref fa) →
      ∃ fd : FuncData, (∀ (s : Shared) (u : Value), BindsTo s fd ⟨[u], []⟩ [("_law_script", u)]) ∧
        ∀ base : Heap, (K w.params).In base → base.Ns mainGlobals mg → FnOk l.prog w (K w.params) mg base CX0 9 fa fd ["_law_script"] (spLaw (K w.params) C)) :
    PySem.W.WalkO q loose XP YP l.row.toRowW d [] (fun f vs => PySem.call f vs) :=
  walk_ofK (n := 63) (k := 9) (x := "_law_script") (CX := CX0) (sp := fun K => spLaw K C) hn (by decide) hdf ⟨rfl, by decide, by decide, rfl⟩ hY F (fun K H a ns hl hO hS => ⟨a, ns, rfl, hS, hl, fun _ => rfl⟩) fun _ _ _ _ h => h
end Mine
open PySem PySem.W PyProof.Rows
namespace PySem.W.Fast
theorem tw15365575788972701407:True:=⟨⟩
theorem tw13145493573194259619:True:=⟨⟩
theorem tw5691370750358230386:True:=⟨⟩
theorem tw5634256171553553044:True:=⟨⟩
theorem tw12249965549940501186:True:=⟨⟩
theorem tw16240516277928263771:True:=⟨⟩
theorem tw17614700000211864277:True:=⟨⟩
theorem tw13870370788311501955:True:=⟨⟩
theorem tw2162761368850814300:True:=⟨⟩
theorem tw6659042460289707633:True:=⟨⟩
theorem tw11154287480358381343:True:=⟨⟩
theorem tw14239698142245687347:True:=⟨⟩
theorem tw12200703087723073613:True:=⟨⟩
theorem tw6593994798388396425:True:=⟨⟩
theorem tw8676422557487061067:True:=⟨⟩
theorem tw11805279751324049138:True:=⟨⟩
theorem tw7111789572665985856:True:=⟨⟩
theorem tw10355697110448405083:True:=⟨⟩
theorem tw14458119291853114317:True:=⟨⟩
theorem tw6108305758495871970:True:=⟨⟩
theorem tw16003599182082700295:True:=⟨⟩
theorem tw13388577286803862728:True:=⟨⟩
theorem tw5962745381592578725:True:=⟨⟩
theorem tw14301882386738045868:True:=⟨⟩
theorem tw9474665077802022023:True:=⟨⟩
theorem tw15904312135613892118:True:=⟨⟩
theorem tw8007856613320683114:True:=⟨⟩
theorem tw4875432689896283037:True:=⟨⟩
theorem tw13634685257790418998:True:=⟨⟩
theorem tw18280017178842231441:True:=⟨⟩
theorem tw14492324656375217341:True:=⟨⟩
theorem tw9555065853673381649:True:=⟨⟩
theorem tw6775581873032447190:True:=⟨⟩
theorem tw4964787286599041580:True:=⟨⟩
theorem tw18013650475704826820:True:=⟨⟩
theorem tw4913944973379425301:True:=⟨⟩
theorem tw13669226396473863337:True:=⟨⟩
theorem tw8395020004839132940:True:=⟨⟩
theorem tw3640028966874272928:True:=⟨⟩
theorem tw11700102896873714169:True:=⟨⟩
theorem tw11756028923886916219:True:=⟨⟩
theorem tw16899119864272019447:True:=⟨⟩
theorem tw1690309281897802006:True:=⟨⟩
theorem tw8349495099679878047:True:=⟨⟩
theorem tw10027638250396673460:True:=⟨⟩
theorem tw728439827974855631:True:=⟨⟩
theorem tw2997683937350709691:True:=⟨⟩
theorem tw18290083535972026915:True:=⟨⟩
theorem tw962557698892799409:True:=⟨⟩
theorem tw11152363676411155072:True:=⟨⟩
theorem tw5397496247651398710:True:=⟨⟩
theorem tw735354898055743417:True:=⟨⟩
theorem tw4068369090677270052:True:=⟨⟩
theorem tw8550151841672981030:True:=⟨⟩
theorem tw12488130419245540694:True:=⟨⟩
theorem tw27875355949552885:True:=⟨⟩
theorem tw13717141220816344602:True:=⟨⟩
theorem tw7834194818239312769:True:=⟨⟩
theorem tw15058772217005850189:True:=⟨⟩
theorem tw7493815756039496857:True:=⟨⟩
theorem tw4602396826653562477:True:=⟨⟩
theorem tw14067438209371859573:True:=⟨⟩
theorem tw12150233603148108554:True:=⟨⟩
theorem tw7455582118215352126:True:=⟨⟩
theorem tw4003124900429507401:True:=⟨⟩
theorem tw14067274043964744672:True:=⟨⟩
theorem tw5649638014325800847:True:=⟨⟩
theorem tw8147336998334181402:True:=⟨⟩
theorem tw8354188435330074006:True:=⟨⟩
theorem tw16806289778023381567:True:=⟨⟩
theorem tw4657323622230418962:True:=⟨⟩
theorem tw9742789547849407459:True:=⟨⟩
theorem tw933053921970231156:True:=⟨⟩
theorem tw13527412901591667428:True:=⟨⟩
theorem tw10161690472012833874:True:=⟨⟩
theorem tw15343663032478595034:True:=⟨⟩
theorem tw7124101930253370010:True:=⟨⟩
theorem tw9049169146443271489:True:=⟨⟩
theorem tw15209032367297316460:True:=⟨⟩
theorem tw16342296392396908074:True:=⟨⟩
theorem tw812820977058472357:True:=⟨⟩
theorem tw17006923396361709461:True:=⟨⟩
theorem tw2144058487677021050:True:=⟨⟩
theorem tw5881146007236402349:True:=⟨⟩
theorem tw4927741957576261707:True:=⟨⟩
theorem tw7875096791363683156:True:=⟨⟩
theorem tw3900917612583198929:True:=⟨⟩
theorem tw2206350062669313669:True:=⟨⟩
theorem tw12588378576723079810:True:=⟨⟩
theorem tw12417219655269886334:True:=⟨⟩
theorem tw14158801328105258032:True:=⟨⟩
theorem tw10902776540746247245:True:=⟨⟩
theorem tw2346420879170991404:True:=⟨⟩
theorem tw3084062166679230810:True:=⟨⟩
theorem tw11624711060530394420:True:=⟨⟩
theorem tw5894656408385687910:True:=⟨⟩
theorem tw13237510588130446699:True:=⟨⟩
theorem tw16544162259995500693:True:=⟨⟩
theorem tw3390131008523857119:True:=⟨⟩
theorem tw4632951998910503109:True:=⟨⟩
theorem tw1825242310935486092:True:=⟨⟩
theorem tw15982036575160197684:True:=⟨⟩
theorem tw3767195074730703395:True:=⟨⟩
theorem tw2360289662603797631:True:=⟨⟩
theorem tw13977463716202080069:True:=⟨⟩
theorem tw17724092094951478790:True:=⟨⟩
theorem tw533693303263410023:True:=⟨⟩
theorem tw14322952181042844618:True:=⟨⟩
theorem tw6939149856812316307:True:=⟨⟩
theorem tw2489973534143001471:True:=⟨⟩
theorem tw12112493476394488548:True:=⟨⟩
theorem tw14386032065984335134:True:=⟨⟩
theorem tw9680723158331360985:True:=⟨⟩
theorem tw17100008999380204748:True:=⟨⟩
theorem tw5282762123062597766:True:=⟨⟩
theorem tw17947229443788375520:True:=⟨⟩
theorem tw17150437342475866905:True:=⟨⟩
theorem tw3216347300411231883:True:=⟨⟩
theorem tw4464999391864848704:True:=⟨⟩
theorem tw1501713385516987615:True:=⟨⟩
theorem tw16535881278195387485:True:=⟨⟩
theorem tw678191592808380649:True:=⟨⟩
theorem tw16455341196141857844:True:=⟨⟩
theorem tw16279819816997408346:True:=⟨⟩
theorem tw6270101149253578334:True:=⟨⟩
theorem tw3974119647304900137:True:=⟨⟩
theorem tw11192890256466729029:True:=⟨⟩
theorem tw12628464923806772848:True:=⟨⟩
theorem tw9937043409553444342:True:=⟨⟩
theorem tw2507478824685007109:True:=⟨⟩
theorem tw13228851258700595612:True:=⟨⟩
theorem tw8600570035677845289:True:=⟨⟩
theorem tw17028040343190716921:True:=⟨⟩
theorem tw5011473035858602635:True:=⟨⟩
theorem tw8044085472534889748:True:=⟨⟩
theorem tw11231609199847776988:True:=⟨⟩
theorem tw16071746845495708873:True:=⟨⟩
theorem tw2074611672279128628:True:=⟨⟩
theorem tw2368347558739601256:True:=⟨⟩
theorem tw14788547312689090978:True:=⟨⟩
theorem tw10278267219776911911:True:=⟨⟩
theorem tw1687122628481597198:True:=⟨⟩
theorem tw15911394347891979798:True:=⟨⟩
theorem tw15163949315767146836:True:=⟨⟩
theorem tw12039661131750623061:True:=⟨⟩
theorem tw5288671027650637914:True:=⟨⟩
theorem tw11163504137653084888:True:=⟨⟩
theorem tw354538922921311359:True:=⟨⟩
theorem tw10207873550851051650:True:=⟨⟩
theorem tw1724398801506883479:True:=⟨⟩
theorem tw4521752252698325429:True:=⟨⟩
theorem tw6922354306667949188:True:=⟨⟩
theorem tw1851752508230712044:True:=⟨⟩
theorem tw3277903553970784450:True:=⟨⟩
theorem tw17969978969333648359:True:=⟨⟩
theorem tw11076901903627602510:True:=⟨⟩
theorem tw10591690024593888796:True:=⟨⟩
theorem tw13332615422978062204:True:=⟨⟩
theorem tw10379661883753381860:True:=⟨⟩
theorem tw13528191768908497390:True:=⟨⟩
theorem tw6442536461488105872:True:=⟨⟩
theorem tw15385852596789674701:True:=⟨⟩
theorem tw13370118351207370544:True:=⟨⟩
theorem tw17137273900184927756:True:=⟨⟩
theorem tw1152829217357526862:True:=⟨⟩
theorem tw17698691954833650179:True:=⟨⟩
theorem tw4062968300825381901:True:=⟨⟩
theorem tw5308030519836358740:True:=⟨⟩
theorem tw11795155473171757381:True:=⟨⟩
theorem tw15406728696606698350:True:=⟨⟩
theorem tw63746536604255453:True:=⟨⟩
theorem tw1872431920231689215:True:=⟨⟩
theorem tw1506935536603310254:True:=⟨⟩
theorem tw11243156353808535584:True:=⟨⟩
theorem tw11820860080851641204:True:=⟨⟩
theorem tw10998223430775600928:True:=⟨⟩
theorem tw1364980608536022431:True:=⟨⟩
end PySem.W.Fast
set_option maxRecDepth 100000 in
set_option maxHeartbeats 0 in
theorem PySem.Challenge.cw_unsaybook_k53_whole_knots_looked_at_holds : PySem.Challenge.rw_unsaybook_k53_whole_knots_looked_at.Holds := by
  w_on; o_law; k_head; (case hw => w_witness2)
  k_fill
  refine' Mine.walk (l := PySem.Challenge.rw_unsaybook_k53_whole_knots_looked_at) rfl rfl (fun w h Y => PySem.W.kIn_of Y) ?F
  case F =>
    intro w mg fa h KX G hmg
    refine' Mine.all_mk KX G hmg ?aU ?aC ?a1 (L2.fun_mk ?l1 ?e1 ?k1) ?a2 (L2.fun_mk ?l2 ?e2 ?k2) ?a3 (L2.fun_mk ?l3 ?e3 ?k3) ?a4 (L2.fun_mk ?l4 ?e4 ?k4) ?a5 (L2.fun_mk ?l5 ?e5 ?k5) ?a6 (L2.fun_mk ?l6 ?e6 ?k6) ?a7 (L2.fun_mk ?l7 ?e7 ?k7) ?a8 (L2.fun_mk ?l8 ?e8 ?k8) ?a9 (L2.fun_mk ?l9 ?e9 ?k9) ?a10 (L2.fun_mk ?l10 ?e10 ?k10) ?a11 (L2.fun_mk ?l11 ?e11 ?k11) ?a12 ?i12 (L2.fun_mk ?l12 ?e12 ?k12) ?a13 (L2.fun_mk ?l13 ?e13 ?k13) ?a14 (L2.fun_mk ?l14 ?e14 ?k14) ?a15 (L2.fun_mk ?l15 ?e15 ?k15) ?a16 (L2.fun_mk ?l16 ?e16 ?k16) ?a17 (L2.fun_mk ?l17 ?e17 ?k17) ?a18 (L2.fun_mk ?l18 ?e18 ?k18) ?a19 (L2.fun_mk ?l19 ?e19 ?k19) ?a20 ?i20 (L2.fun_mk ?l20 ?e20 ?k20) ?a21 ?i21 (L2.fun_mk ?l21 ?e21 ?k21) ?a22 ?i22 (L2.fun_mk ?l22 ?e22 ?k22) ?a23 ?i23 (L2.fun_mk ?l23 ?e23 ?k23) ?a24 (L2.fun_mk ?l24 ?e24 ?k24) ?a25 (L2.fun_mk ?l25 ?e25 ?k25) ?a26 ?i26 (L2.fun_mk ?l26 ?e26 ?k26) ?a27 ?i27 (L2.fun_mk ?l27 ?e27 ?k27) ?a28 (L2.fun_mk ?l28 ?e28 ?k28) ?a29 (L2.fun_mk ?l29 ?e29 ?k29) ?a30 (L2.fun_mk ?l30 ?e30 ?k30) ?a31 (L2.fun_mk ?l31 ?e31 ?k31) ?a32 (L2.fun_mk ?l32 ?e32 ?k32) ?a33 (L2.fun_mk ?l33 ?e33 ?k33) ?a34 (L2.fun_mk ?l34 ?e34 ?k34) ?a35 ?i35 (L2.fun_mk ?l35 ?e35 ?k35) ?a36 (L2.fun_mk ?l36 ?e36 ?k36) ?a37 ?i37 (L2.fun_mk ?l37 ?e37 ?k37) ?cm1 ⟨?cx1, ?xa1, ?xb1, ?xc1, ?xd1, ?xe1, ?xf1, ?xg1⟩ ?ia1 ?ii1 (L2.fun_mk ?il1 ?id1 ?ik1) ?nf1 ?hc1 ?nc1U ?cm2 ⟨?cx2, ?xa2, ?xb2, ?xc2, ?xd2, ?xe2, ?xf2, ?xg2⟩ ?ia2 ?hc2 ?nc2U ?nc1c2 ?nc2c1 ⟨⟨?pg, ?hd, ?po, ?sa⟩, ?nn1, ?nn2, ?nn3⟩ ?mk ?kc ?q1 ?q2 ?q3 ?q4 ?q5 ?q6 ?z1 ?z2 ?z3 ?z4 ?z5 ?z6 ?z7 ?z8 ?z9 ?z10 ?z11 ?z12 ?z13 ?z14 ?z15 ?z16 ?z17
    case aU | aC | a1 | l1 | e1 | k1 | a2 | l2 | e2 | k2 | a3 | l3 | e3 | k3 | a4 | l4 | e4 | k4 | a5 | l5 | e5 | k5 | a6 | l6 | e6 | k6 | a7 | l7 | e7 | k7 | a8 | l8 | e8 | k8 | a9 | l9 | e9 | k9 | a10 | l10 | e10 | k10 | a11 | l11 | e11 | k11 | a12 | i12 | l12 | e12 | k12 | a13 | l13 | e13 | k13 | a14 | l14 | e14 | k14 | a15 | l15 | e15 | k15 | a16 | l16 | e16 | k16 | a17 | l17 | e17 | k17 | a18 | l18 | e18 | k18 | a19 | l19 | e19 | k19 | a20 | i20 | l20 | e20 | k20 | a21 | i21 | l21 | e21 | k21 | a22 | i22 | l22 | e22 | k22 | a23 | i23 | l23 | e23 | k23 | a24 | l24 | e24 | k24 | a25 | l25 | e25 | k25 | a26 | i26 | l26 | e26 | k26 | a27 | i27 | l27 | e27 | k27 | a28 | l28 | e28 | k28 | a29 | l29 | e29 | k29 | a30 | l30 | e30 | k30 | a31 | l31 | e31 | k31 | a32 | l32 | e32 | k32 | a33 | l33 | e33 | k33 | a34 | l34 | e34 | k34 | a35 | i35 | l35 | e35 | k35 | a36 | l36 | e36 | k36 | a37 | i37 | l37 | e37 | k37 | cm1 | xa1 | xb1 | xc1 | xd1 | xe1 | xf1 | xg1 | ia1 | ii1 | il1 | id1 | ik1 | nf1 | cm2 | xa2 | xb2 | xc2 | xd2 | xe2 | xf2 | xg2 | ia2 | pg | hd | po | sa | nn1 | nn2 | nn3 | mk | kc | q1 | q2 | q3 | q4 | q5 | q6 | z1 | z2 | z3 | z4 | z5 | z6 | z7 | z8 | z9 | z10 | z11 | z12 | z13 | z14 | z15 | z16 | z17 => first | k_is | (unfold L2.NoAttr; k_is)
    case cx1 | hc1 | nc1U | cx2 | hc2 | nc2U | nc1c2 | nc2c1 => first | k_is | kernel_rfl | decide
