import PyProof.Rows.All
import Wide.All
import OpenK.AllK
import Wide.FinOn
import Lean
import PyProof.EqAt
import PyProof.EqKinds
import PyProof.TupleCall
import PySem.Challenge.RW_unsaybook_k15_whole_nothing_is_wiped_out
set_option Elab.async false
set_option linter.all false
set_option maxRecDepth 100000
namespace L2
open PySem PySem.Spec PyProof.Rows
abbrev Key := Sum Int Str
def keyIs : Key → Value → Bool
  | .inl k, v => Value.isInt k v
  | .inr x, v => Value.isStrOf x v
def keyH (w : World) : Key → Int
  | .inl k => hashInt k
  | .inr x => hashStr w x
theorem keyIs_shape : ∀ {k : Key} {v : Value}, keyIs k v = true → (∃ i t, k = Sum.inl i ∧ v = Value.int i t) ∨ (∃ x t, k = Sum.inr x ∧ v = Value.str x t)
  | .inl i, v, h => by
    obtain ⟨t, e⟩ := Value.isInt_shape (k := i) (v := v) h
    exact .inl ⟨i, t, rfl, e⟩
  | .inr x, v, h => by
    obtain ⟨t, e⟩ := Value.isStrOf_shape (x := x) (v := v) h
    exact .inr ⟨x, t, rfl, e⟩
theorem keyIs_int (i : Int) (t : Tok) : keyIs (.inl i) (.int i t) = true := by simp [keyIs, Value.isInt]
theorem keyIs_str (x : Str) (t : Tok) : keyIs (.inr x) (.str x t) = true := by simp [keyIs, Value.isStrOf]
theorem key_ll (a b : Int) : decide ((Sum.inl a : Key) = Sum.inl b) = (a == b) := by
  by_cases e : a = b
  · subst e; simp
  · have h : ¬ (Sum.inl a : Key) = Sum.inl b := fun q => e (Sum.inl.inj q)
    rw [decide_eq_false h]
    exact (beq_eq_false_iff_ne.mpr e).symm
theorem key_rr (a b : Str) : decide ((Sum.inr a : Key) = Sum.inr b) = decide (a = b) := by
  by_cases e : a = b
  · subst e; simp
  · have h : ¬ (Sum.inr a : Key) = Sum.inr b := fun q => e (Sum.inr.inj q)
    rw [decide_eq_false h, decide_eq_false e]
theorem key_lr (a : Int) (b : Str) : decide ((Sum.inl a : Key) = Sum.inr b) = false := decide_eq_false (fun q => nomatch q)
theorem key_rl (a : Str) (b : Int) : decide ((Sum.inr a : Key) = Sum.inl b) = false := decide_eq_false (fun q => nomatch q)
def mixKind (prog : Program) (w : World) : PySem.KeyKind prog w Key where
  is := keyIs
  hash := keyH w
  inj := fun v a b ha hb => by
    rcases keyIs_shape ha with ⟨i, t, rfl, rfl⟩ | ⟨x, t, rfl, rfl⟩
    · rcases keyIs_shape hb with ⟨j, u, rfl, e⟩ | ⟨y, u, rfl, e⟩
      · injection e with e1 _; rw [e1]
      · exact nomatch e
    · rcases keyIs_shape hb with ⟨j, u, rfl, e⟩ | ⟨y, u, rfl, e⟩
      · exact nomatch e
      · injection e with e1 _; rw [e1]
  byValue := fun k v h => by
    rcases keyIs_shape h with ⟨i, t, rfl, rfl⟩ | ⟨x, t, rfl, rfl⟩ <;> rfl
  pyHash := fun hv h => by
    rcases keyIs_shape hv with ⟨i, t, rfl, rfl⟩ | ⟨x, t, rfl, rfl⟩
    · exact wpAny_pyHash_int h
    · exact wpAny_pyHash_str h
  eqBool := fun hu hv h => by
    rcases keyIs_shape hu with ⟨i, t, rfl, rfl⟩ | ⟨x, t, rfl, rfl⟩
    · rcases keyIs_shape hv with ⟨j, u, rfl, rfl⟩ | ⟨y, u, rfl, rfl⟩
      · rw [key_ll] at h; exact wpAny_eqBool_int h
      · rw [key_lr] at h; exact SeqAt.EqAt.int_str i t y u _ _ _ _ h
    · rcases keyIs_shape hv with ⟨j, u, rfl, rfl⟩ | ⟨y, u, rfl, rfl⟩
      · rw [key_rl] at h; exact SeqAt.EqAt.str_int x t j u _ _ _ _ h
      · rw [key_rr] at h; exact wpAny_eqBool_str h
  «strs» := fun k x t v h => by
    rcases keyIs_shape h with ⟨i, u, rfl, e⟩ | ⟨y, u, rfl, e⟩
    · exact nomatch e
    · injection e with e1 _
      subst e1
      cases v <;> rfl
theorem mixKind_int (prog : Program) (w : World) (i : Int) (t : Tok) : (mixKind prog w).is (.inl i) (.int i t) = true := keyIs_int i t
theorem mixKind_str (prog : Program) (w : World) (x : Str) (t : Tok) : (mixKind prog w).is (.inr x) (.str x t) = true := keyIs_str x t
end L2
namespace L2
open PySem PySem.Spec PyProof.Rows
inductive V where
  | non | bl (b : Bool) | int (i : Int) | str (x : Str) | byt (b : Array UInt8) | flt (b : UInt64) | ref (a : Addr) | ty (n : String)
  deriving DecidableEq
def RelV : V → Value → Prop
  | .non, u => u = Value.none
  | .bl b, u => u = Value.bool b
  | .int i, u => ∃ t, u = Value.int i t
  | .str x, u => ∃ t, u = Value.str x t
  | .byt b, u => ∃ t, u = Value.bytes b t
  | .flt b, u => ∃ t, u = Value.float b t
  | .ref a, u => u = Value.ref a
  | .ty n, u => u = Value.type n
abbrev Vals : List V → List Value → Prop := Paired RelV
theorem Vals.length {xs : List V} {us : List Value} (r : Vals xs us) : xs.length = us.length := Paired.length r
theorem Vals.get : ∀ {xs : List V} {us : List Value} {i : Nat} {x : V}, Vals xs us → xs[i]? = some x → ∃ u, us[i]? = some u ∧ RelV x u
  | _, _, _, _, .nil, e => by simp at e
  | _, _, 0, _, .cons r _, e => by simp at e; subst e; exact ⟨_, rfl, r⟩
  | _, _, i + 1, x, .cons _ t, e => by
    obtain ⟨u, h1, h2⟩ := Vals.get (i := i) (x := x) t (by simpa using e)
    exact ⟨u, by simpa using h1, h2⟩
theorem Vals.set {x : V} {u : Value} (r : RelV x u) : ∀ {xs : List V} {us : List Value} (i : Nat), Vals xs us → Vals (xs.set i x) (us.set i u)
  | _, _, _, .nil => .nil
  | _, _, 0, .cons _ t => .cons r t
  | _, _, i + 1, .cons q t => .cons q (Vals.set r i t)
theorem Vals.append : ∀ {xs ys : List V} {us ws : List Value}, Vals xs us → Vals ys ws → Vals (xs ++ ys) (us ++ ws)
  | _, _, _, _, .nil, s => s
  | _, _, _, _, .cons r t, s => .cons r (Vals.append t s)
theorem Vals.take : ∀ {xs : List V} {us : List Value} (n : Nat), Vals xs us → Vals (xs.take n) (us.take n)
  | _, _, 0, _ => .nil
  | _, _, _ + 1, .nil => .nil
  | _, _, n + 1, .cons r t => .cons r (Vals.take n t)
theorem Vals.drop : ∀ {xs : List V} {us : List Value} (n : Nat), Vals xs us → Vals (xs.drop n) (us.drop n)
  | _, _, 0, r => r
  | _, _, _ + 1, .nil => .nil
  | _, _, n + 1, .cons _ t => Vals.drop n t
def RelO : Option V → Option Value → Prop
  | some v, some u => RelV v u
  | none, none => True
  | _, _ => False
def KV {κ : Type} : List (κ × V) → List (κ × Value) → Prop := Paired fun (p : κ × V) (q : κ × Value) => p.1 = q.1 ∧ RelV p.2 q.2
def kV : Key → V
  | .inl i => .int i
  | .inr x => .str x
inductive HO where
  /-- a list -/
  | lst (xs : List V)
  /-- a tuple (never changes) -/
  | tup (xs : List V)
  /-- a dict whose keys are ints and texts; one whose keys are tuples of ints and texts (the empty one is both) -/
  | dK (kvs : List (Key × V)) | dT (kvs : List (List Key × V))
  /-- a set of ints: its members, its size -/
  | set (S : Int → Bool) (n : Nat)
  /-- an instance of the class at C, its dict at dx, its attributes -/
  | ins (C dx : Addr) (fs : List (Str × V))
  /-- the dict of the instance at x -/
  | own (x : Addr)
  /-- the dict of an exception -/
  | xd (fs : List (Str × V))
  /-- a bound method, f of x -/
  | met (f x : Addr)
  /-- a range object lo, lo + 1, .. below hi -/
  | rng (lo hi : Int)
  /-- a thing that is known to the object (the script; a dict while a loop walks it): read, never written while it is so -/
  | frz (o : Obj) (u : HO)
  /-- a code object's table -/
  | tbl (ps : Array Value)
  /-- any other thing, by what is true of its one object (a def of one's own: SetO a S n := HO.ext fun h => ..) -/
  | ext (φ : Heap → Prop)
abbrev Hp := Addr → Option HO
def upd (H : Hp) (a : Addr) (o : HO) : Hp := fun b => if b = a then some o else H b
theorem upd_same {H : Hp} {a : Addr} {o : HO} : upd H a o a = some o := by unfold upd; rw [if_pos rfl]
theorem upd_ne {H : Hp} {a b : Addr} {o : HO} (h : b ≠ a) : upd H a o b = H b := by unfold upd; rw [if_neg h]
theorem upd_upd {H : Hp} {a : Addr} {o u : HO} : upd (upd H a o) a u = upd H a u := by
  funext b; unfold upd; split <;> rfl
theorem ne_of {H : Hp} {a b : Addr} {o u : HO} (h : H a = some o) (h' : H b = some u) (d : o ≠ u) : a ≠ b := by
  intro e; subst e; rw [h] at h'; exact d (Option.some.inj h')
theorem ne_of_none {H : Hp} {a b : Addr} {o : HO} (h : H a = some o) (h' : H b = none) : a ≠ b := by
  intro e; subst e; rw [h] at h'; cases h'
section
variable (P : Program) (w : World)
def ObjOk (H : Hp) (h : Heap) (a : Addr) : HO → Prop
  | .lst xs => xs.length ≤ sizeLine ∧ ∃ (its : List Value) (n : Nat), Vals xs its ∧ h.get? a = some { cls := .type "list", data := .seq its.toArray n }
  | .tup xs => xs.length ≤ sizeLine ∧ ∃ its : List Value, Vals xs its ∧ IsTup h a its.toArray
  | .dK kvs => kvs.length ≤ sizeLine ∧ (a == sysModules) = false ∧ ∃ vs, KV kvs vs ∧ h.DictOf (mixKind P w) a vs
  | .dT kvs => kvs.length ≤ sizeLine ∧ (a == sysModules) = false ∧ ∃ xs : List (List Key × Addr × Value),
      Paired (fun (p : List Key × V) (q : List Key × Addr × Value) => p.1 = q.1 ∧ H q.2.1 = some (.tup (p.1.map kV)) ∧ RelV p.2 q.2.2) kvs xs ∧
      ∃ o es ep, h.get? a = some o ∧ o.ExactDict ∧ o.data = .dict es ep ∧ es.toList = xs.map (entryOfKey (tupleKind (mixKind P w))) ∧ (xs.map (·.1)).Nodup
  | .set S n => h.SetOf (intKind P w) a S n
  | .ins C dx fs => H dx = some (.own a) ∧ fs.length ≤ 1000 ∧ dx ≠ a ∧ h.get? a = some (PySem.W.instObj C dx) ∧
      ∃ mA, h.Ns1 dx mA ∧ (∀ f, RelO (fs.lookup f) (mA f)) ∧ PySem.Within mA (fs.map (·.1))
  | .own _ => ∃ o, h.get? a = some o
  | .xd fs => ∃ mA, h.Ns1 a mA ∧ ∀ f, RelO (fs.lookup f) (mA f)
  | .rng lo hi => ∃ t u v, h.get? a = some { cls := .type "range", data := .fields #[.int lo t, .int hi u, .int 1 v] }
  | .frz o u => h.get? a = some o ∧ ObjOk H h a u
  | .tbl ps => h.get? a = some { cls := .none, data := .fields ps }
  | .met f x => h.get? a = some (PySem.W.methodObj (.ref f) (.ref x))
  | .ext φ => φ h ∧ (∃ o, h.get? a = some o) ∧ ∀ h1 h2 : Heap, φ h1 → (∀ o, h1.get? a = some o → h2.get? a = some o) → φ h2
def HOk (H : Hp) (h : Heap) : Prop := ∀ a o, H a = some o → ObjOk P w H h a o
end
section
variable {P : Program} {w : World} {H H' : Hp} {h h' : Heap} {a : Addr} {o : HO}
theorem ObjOk.lt (x : ObjOk P w H h a o) : a < h.objs.size := by
  cases o with
  | lst xs => obtain ⟨_, _, _, _, e⟩ := x; exact Heap.lt_size e
  | tup xs => obtain ⟨_, _, _, p⟩ := x; exact p.lt
  | dK kvs => obtain ⟨_, _, _, _, o, _, _, e, _⟩ := x; exact Heap.lt_size e
  | dT kvs => obtain ⟨_, _, _, _, o, _, _, e, _⟩ := x; exact Heap.lt_size e
  | set S n => obtain ⟨o, _, _, _, e, _⟩ := x; exact Heap.lt_size e
  | ins C dx fs => obtain ⟨_, _, _, e, _⟩ := x; exact Heap.lt_size e
  | own y => obtain ⟨_, e⟩ := x; exact Heap.lt_size e
  | xd fs => obtain ⟨_, ⟨_, _, _, e, _⟩, _⟩ := x; exact Heap.lt_size e
  | rng lo hi => obtain ⟨_, _, _, e⟩ := x; exact Heap.lt_size e
  | frz ob u => obtain ⟨e, _⟩ := x; exact Heap.lt_size e
  | tbl ps => exact Heap.lt_size (show h.get? a = some _ from x)
  | met f y => exact Heap.lt_size (show h.get? a = some _ from x)
  | ext φ => obtain ⟨_, ⟨_, e⟩, _⟩ := x; exact Heap.lt_size e
theorem Paired.mapP {α β : Type} {F G : α → β → Prop} : ∀ {l₁ : List α} {l₂ : List β}, Paired F l₁ l₂ → (∀ a b, F a b → G a b) → Paired G l₁ l₂
  | _, _, .nil, _ => .nil
  | _, _, .cons r t, f => .cons (f _ _ r) (Paired.mapP t f)
theorem ObjOk.stay (x : ObjOk P w H h a o) (k : ∀ b u, (b = a ∨ H b = some (.own a)) → h.get? b = some u → h'.get? b = some u)
    (ho : ∀ b, H b = some (.own a) → H' b = some (.own a)) (ht : ∀ b xs, H b = some (.tup xs) → H' b = some (.tup xs)) : ObjOk P w H' h' a o := by
  induction o with
  | lst xs => obtain ⟨z, its, n, r, e⟩ := x; exact ⟨z, its, n, r, k _ _ (.inl rfl) e⟩
  | tup xs => obtain ⟨z, its, r, ob, e, c⟩ := x; exact ⟨z, its, r, ob, k _ _ (.inl rfl) e, c⟩
  | dK kvs => obtain ⟨z, y, vs, r, ob, es, ep, e, c⟩ := x; exact ⟨z, y, vs, r, ob, es, ep, k _ _ (.inl rfl) e, c⟩
  | dT kvs =>
    obtain ⟨z, y, xs, r, ob, es, ep, e, c⟩ := x
    exact ⟨z, y, xs, Paired.mapP r fun p q z => ⟨z.1, ht _ _ z.2.1, z.2.2⟩, ob, es, ep, k _ _ (.inl rfl) e, c⟩
  | set S n => obtain ⟨ob, es, ep, t, e, c⟩ := x; exact ⟨ob, es, ep, t, k _ _ (.inl rfl) e, c⟩
  | ins C dx fs =>
    obtain ⟨d, z, ne, e, mA, ⟨od, es, ep, e2, c⟩, r⟩ := x
    exact ⟨ho _ d, z, ne, k _ _ (.inl rfl) e, mA, ⟨od, es, ep, k _ _ (.inr d) e2, c⟩, r⟩
  | own y => obtain ⟨ob, e⟩ := x; exact ⟨ob, k _ _ (.inl rfl) e⟩
  | xd fs => obtain ⟨mA, ⟨od, es, ep, e, c⟩, r⟩ := x; exact ⟨mA, ⟨od, es, ep, k _ _ (.inl rfl) e, c⟩, r⟩
  | rng lo hi => obtain ⟨t, u, v, e⟩ := x; exact ⟨t, u, v, k _ _ (.inl rfl) e⟩
  | frz ob u ih => obtain ⟨e, q⟩ := x; exact ⟨k _ _ (.inl rfl) e, ih q⟩
  | tbl ps =>
    have e : h.get? a = some { cls := .none, data := .fields ps } := x
    show h'.get? a = some { cls := .none, data := .fields ps }
    exact k a _ (.inl rfl) e
  | met f y =>
    have e : h.get? a = some (PySem.W.methodObj (.ref f) (.ref y)) := x
    show h'.get? a = some (PySem.W.methodObj (.ref f) (.ref y))
    exact k a _ (.inl rfl) e
  | ext φ => obtain ⟨p, ⟨o, e⟩, st⟩ := x; exact ⟨st _ _ p fun o q => k _ _ (.inl rfl) q, ⟨o, k _ _ (.inl rfl) e⟩, st⟩
theorem HOk.lt (x : HOk P w H h) (e : H a = some o) : a < h.objs.size := (x a o e).lt
theorem HOk.fresh (x : HOk P w H h) (e : h.objs.size ≤ a) : H a = none := by
  cases q : H a with
  | none => rfl
  | some u => exact absurd (Nat.lt_of_lt_of_le (x.lt q) e) (Nat.lt_irrefl _)
theorem HOk.kept (x : HOk P w H h) (k : ∀ b u, h.get? b = some u → h'.get? b = some u) : HOk P w H h' := fun a o e =>
  (x a o e).stay (fun b u _ q => k b u q) (fun _ q => q) fun _ _ q => q
theorem HOk.laid (x : HOk P w H h) (k : ∀ b u, h.get? b = some u → h'.get? b = some u) (hp : h.objs.size ≤ a) (new : ObjOk P w (upd H a o) h' a o) : HOk P w (upd H a o) h' := fun b u e => by
  have hn := x.fresh hp
  by_cases hb : b = a
  · subst hb; rw [upd_same] at e; cases e; exact new
  · rw [upd_ne hb] at e
    exact (x b u e).stay (fun c v _ q => k c v q) (fun c q => by rw [upd_ne (ne_of_none q hn)]; exact q) fun c xs q => by rw [upd_ne (ne_of_none q hn)]; exact q
end
def Rd (H : Hp) (a : Addr) (u : HO) : Prop := H a = some u ∨ ∃ o, H a = some (.frz o u)
theorem Rd.ok {P : Program} {w : World} {H : Hp} {h : Heap} {a : Addr} {u : HO} (r : Rd H a u) (x : HOk P w H h) : ObjOk P w H h a u := by
  rcases r with r | ⟨o, r⟩
  · exact x a u r
  · obtain ⟨_, q⟩ := x a _ r
    exact q
def Mut : Option HO → Prop
  | some (.lst _) => True
  | some (.dK _) => True
  | some (.dT _) => True
  | some (.set _ _) => True
  | some (.ins _ _ _) => True
  | some (.ext _) => True
  | _ => False
section
variable {P : Program} {w : World} {H : Hp} {h h' : Heap} {x e : Addr} {o' : HO}
theorem HOk.write (ok : HOk P w H h) (mu : Mut (H x)) (he : e = x ∨ H e = some (.own x)) (k : ∀ b u, b ≠ e → h.get? b = some u → h'.get? b = some u) (heo : ∃ u, h'.get? e = some u)
    (new : ObjOk P w (upd H x o') h' x o') : HOk P w (upd H x o') h' := fun b u q => by
  have nown : ∀ c y, H c = some (.own y) → c ≠ x := fun c y r z => by subst z; rw [r] at mu; exact mu
  have ntup : ∀ c xs, H c = some (.tup xs) → c ≠ x := fun c xs r z => by subst z; rw [r] at mu; exact mu
  by_cases hb : b = x
  · subst hb; rw [upd_same] at q; cases q; exact new
  · rw [upd_ne hb] at q
    by_cases hbe : b = e
    · have q' : H b = some (.own x) := by
        rcases he with z | z
        · exact absurd (hbe.trans z) hb
        · rw [hbe]; exact z
      rw [q] at q'; cases q'
      obtain ⟨v, hv⟩ := heo
      exact ⟨v, by rw [hbe]; exact hv⟩
    · refine (ok b u q).stay (fun c v hc r => k c v ?_ r) (fun c r => by rw [upd_ne (nown c b r)]; exact r) fun c xs r => by rw [upd_ne (ntup c xs r)]; exact r
      rcases hc with rfl | hc
      · exact hbe
      · rintro rfl
        rcases he with z | z
        · exact nown c b hc z
        · rw [hc] at z; cases z; exact hb rfl
end
structure Un (fs ex : List Addr) (H H' : Hp) (h h' : Heap) : Prop where
  keep : ∀ b o, h.get? b = some o → H b = none → b ∉ fs → b ∉ ex → h'.get? b = some o
  slot : ∀ b o, h.get? b = some o → H b = none → b ∈ fs → b ∉ ex → ∃ sl, h'.get? b = some { o with slots := sl }
  free : ∀ b o, h.get? b = some o → H b = none → b ∉ ex → H' b = none
  there : ∀ b o, h.get? b = some o → b ∉ ex → ∃ o', h'.get? b = some o'
  tups : ∀ b xs, H b = some (.tup xs) → H' b = some (.tup xs)
  frzs : ∀ b o u, H b = some (.frz o u) → H' b = some (.frz o u)
  tbls : ∀ b ps, H b = some (.tbl ps) → ∃ more, H' b = some (.tbl (ps ++ more))
section
variable {fs fs' ex ex' : List Addr} {H H1 H2 : Hp} {h h1 h2 h' : Heap} {a x e : Addr} {o : HO}
theorem Un.any (u : Un fs ex H H1 h h1) {b : Addr} {ob : Obj} (q : h.get? b = some ob) (n : H b = none) (hx : b ∉ ex) : ∃ sl, h1.get? b = some { ob with slots := sl } := by
  by_cases hb : b ∈ fs
  · exact u.slot b ob q n hb hx
  · exact ⟨ob.slots, u.keep b ob q n hb hx⟩
theorem Un.kept (k : ∀ b u, h.get? b = some u → h'.get? b = some u) : Un fs ex H H h h' :=
  ⟨fun b ob q _ _ _ => k b ob q, fun b ob q _ _ _ => ⟨ob.slots, k b ob q⟩, fun _ _ _ n _ => n, fun b ob q _ => ⟨ob, k b ob q⟩, fun _ _ q => q, fun _ _ _ q => q, fun _ ps q => ⟨#[], by rw [q]; simp⟩⟩
theorem Un.refl : Un fs ex H H h h := Un.kept fun _ _ q => q
theorem Un.laid (k : ∀ b u, h.get? b = some u → h'.get? b = some u) (hp : h.objs.size ≤ a) (hn : H a = none) : Un fs ex H (upd H a o) h h' where
  keep := fun b u q _ _ _ => k b u q
  slot := fun b u q _ _ _ => ⟨u.slots, k b u q⟩
  free := fun b u q n _ => by rw [upd_ne (Nat.ne_of_lt (Nat.lt_of_lt_of_le (Heap.lt_size q) hp))]; exact n
  there := fun b u q _ => ⟨u, k b u q⟩
  tups := fun b xs q => by rw [upd_ne (ne_of_none q hn)]; exact q
  frzs := fun b u xs q => by rw [upd_ne (ne_of_none q hn)]; exact q
  tbls := fun b ps q => ⟨#[], by rw [upd_ne (ne_of_none q hn), q]; simp⟩
theorem Un.write (mu : Mut (H x)) (he : e = x ∨ H e = some (.own x)) (k : ∀ b u, b ≠ e → h.get? b = some u → h'.get? b = some u) (heo : ∃ u, h'.get? e = some u) : Un fs ex H (upd H x o) h h' := by
  have hx : ∀ b, H b = none → b ≠ x := fun b n z => by subst z; rw [n] at mu; exact mu
  have hb : ∀ b, H b = none → b ≠ e := fun b n z => by
    subst z
    rcases he with r | r
    · exact hx b n r
    · rw [n] at r; cases r
  have hm : ∀ b u, H b = some u → ¬ Mut (some u) → b ≠ x := fun b u q nm z => by subst z; rw [q] at mu; exact nm mu
  refine ⟨fun b u q n _ _ => k b u (hb b n) q, fun b u q n _ _ => ⟨u.slots, k b u (hb b n) q⟩, fun b u q n _ => by rw [upd_ne (hx b n)]; exact n, fun b u q _ => ?_,
    fun b xs q => by rw [upd_ne (hm b _ q fun z => z)]; exact q, fun b u xs q => by rw [upd_ne (hm b _ q fun z => z)]; exact q, fun b ps q => ⟨#[], by rw [upd_ne (hm b _ q fun z => z), q]; simp⟩⟩
  by_cases hbe : b = e
  · subst hbe; exact heo
  · exact ⟨u, k b u hbe q⟩
end
def trk (h : Heap) (H : Hp) : List Addr := (List.range h.objs.size).filter fun a => (H a).isSome
def hidT (h : Heap) (H : Hp) : Heap := PySem.W.hideAll h (trk h H)
theorem hidT_size (h : Heap) (H : Hp) : (hidT h H).objs.size = h.objs.size := PySem.W.hideAll_size _ _
theorem hidT_get {h : Heap} {H : Hp} {b : Addr} {o : Obj} (e : h.get? b = some o) (n : H b = none) : (hidT h H).get? b = some o :=
  PySem.W.hideAll_get _ e fun hm => by
    have q : (H b).isSome = true := (List.mem_filter.mp hm).2
    rw [n] at q; simp at q
theorem of_hidT {h : Heap} {H : Hp} {b : Addr} {o : Obj} (e : (hidT h H).get? b = some o) : h.get? b = some o ∧ H b = none := by
  have e' : h.get? b = some o := PySem.W.of_hideAll (trk h H) e
  refine ⟨e', ?_⟩
  cases q : H b with
  | none => rfl
  | some x =>
    have hm : b ∈ trk h H := List.mem_filter.mpr ⟨List.mem_range.mpr (Heap.lt_size e'), by simp [q]⟩
    have z : (hidT h H).get? b = none := PySem.W.hideAll_none (trk h H) hm
    rw [z] at e; cases e
def allNews (g h : Heap) (L : Addr) : List (Addr × Obj) := (List.range h.objs.size).filterMap fun a => if a = L ∨ (g.get? a).isSome = true then none else (h.get? a).map fun o => (a, o)
def rest (g h : Heap) (L d : Addr) : List (Addr × Obj) := (allNews g h L).filter fun p => decide (p.1 ≠ d)
end L2
namespace L2
open PySem PySem.Spec PyProof.Rows
structure Mod (K : PySem.W.Frag) (mg : Str → Option Value) (base : Heap) : Prop where
  kin : K.In base
  glob : base.Ns mainGlobals mg
  blt : ∃ mb, base.Ns builtinsNs mb ∧ ∀ x : Str, x ≠ "__name__" → mb x = bootBuiltins x
  nolimit : base.NoLimit
structure Cx where
  prog : Program
  w : World
  K : PySem.W.Frag
  mg : Str → Option Value
  base : Heap
  A : Around
  N : List Str
  s₀ : Shared
  H₀ : Hp
  env : Env
  outer : List Env
  stack : List Env
  ex : List Addr
  fn : Str → Bool
  calm : Bool
  pn : List (Addr × Obj)
  xe : Value → Shared → Prop
def frs (l : List Env) : List Addr := l.filterMap (·.frame)
abbrev Cx.fs (X : Cx) : List Addr := frs X.outer
def Vis (sc : Scope) (x : Str) : Prop := sc.names.lookup x = some .local ∨ sc.names.lookup x = some .cell ∨ sc.names.lookup x = some .free
def Loc (sc : Scope) (x : Str) : Prop := sc.names.lookup x = some .local ∨ sc.names.lookup x = some .cell
def Look (env : Env) (h : Heap) (m : Str → Option Value) (x : Str) (u : Value) : Prop :=
  (env.kindOf x = some .local ∧ m x = some u) ∨ ((env.kindOf x = some .cell ∨ env.kindOf x = some .free) ∧ ∃ c, env.cells.lookup x = some c ∧ h.IsCell c (some u))
structure Cx.Ok (X : Cx) : Prop where
  mod : Mod X.K X.mg X.base
  kind : X.env.scope.kind = .function
  glob : X.env.globals = mainGlobals
  blt : X.env.builtins = builtinsNs
  above : X.s₀.heap.objs.size ≤ X.env.locals
  inj : ∀ x y c, X.env.cells.lookup x = some c → X.env.cells.lookup y = some c → x = y
  has : ∀ x, (X.env.kindOf x = some .cell ∨ X.env.kindOf x = some .free) → ∃ c, X.env.cells.lookup x = some c
  cab : ∀ x c, X.fn x = true → X.env.cells.lookup x = some c → X.s₀.heap.objs.size ≤ c
  hd : X.calm = true → X.A.handled = none
  frames : X.A.frames = some X.stack
  stk : X.stack = X.outer ∨ (X.stack = X.env :: X.outer ∧ X.env.frame = some X.env.locals)
  exf : ∀ b ∈ X.ex, b ≠ X.env.locals ∧ ∀ x c, X.env.cells.lookup x = some c → c ≠ b
  bs : ∀ b o, X.base.get? b = some o → X.s₀.heap.get? b = some o ∧ X.H₀ b = none
  bsz : X.base.objs.size ≤ X.s₀.heap.objs.size
  noex : ∀ b o, X.base.get? b = some o → b ∉ X.ex
  exfs : ∀ b ∈ X.ex, b ∉ X.fs
  funs : X.s₀.heap.FunFrames X.base X.outer
  frf : ∀ b ∈ X.fs, X.H₀ b = none
structure Inv (X : Cx) (pins : List (Addr × Obj)) (σ : List (Option V)) (H : Hp) (s : Shared) : Prop where
  ok : X.Ok
  os : s.os = X.s₀.os
  bare : AllBare s.gens
  base : Un X.fs X.ex X.H₀ H X.s₀.heap s.heap
  loc : ∃ m, s.heap.Ns X.env.locals m ∧ ∀ (i : Nat) (x : Str) (v : V), X.N[i]? = some x → σ[i]? = some (some v) → Vis X.env.scope x → ∃ u, RelV v u ∧ Look X.env s.heap m x u
  cell : ∀ x c, X.env.cells.lookup x = some c → ∃ v, s.heap.IsCell c v
  free : H X.env.locals = none
  freeC : ∀ x c, X.env.cells.lookup x = some c → H c = none
  pin : ∀ p ∈ X.pn ++ pins, s.heap.get? p.1 = some p.2 ∧ H p.1 = none ∧ p.1 ≠ X.env.locals ∧ p.1 ∉ X.fs ∧ ∀ v, p.2.data ≠ .cell v
  hok : HOk X.prog X.w H s.heap
  len : σ.length = X.N.length
section
variable {X : Cx} {pins : List (Addr × Obj)} {σ : List (Option V)} {H H' : Hp} {s : Shared} {h' : Heap}
theorem Cx.Ok.nofr (ok : X.Ok) {b : Addr} {o : Obj} (e : X.base.get? b = some o) : b ∉ X.fs := fun hb => by
  have := (ok.funs.mem hb).1
  rw [e] at this; cases this
theorem Inv.bs (I : Inv X pins σ H s) : ∀ b o, X.base.get? b = some o → s.heap.get? b = some o ∧ H b = none := fun b o e =>
  ⟨I.base.keep b o (I.ok.bs b o e).1 (I.ok.bs b o e).2 (I.ok.nofr e) (I.ok.noex b o e), I.base.free b o (I.ok.bs b o e).1 (I.ok.bs b o e).2 (I.ok.noex b o e)⟩
theorem Inv.bk (I : Inv X pins σ H s) : ∀ b o, X.base.get? b = some o → s.heap.get? b = some o := fun b o e => (I.bs b o e).1
theorem Inv.mod (I : Inv X pins σ H s) : Mod X.K X.mg X.base := I.ok.mod
theorem Inv.kIn (I : Inv X pins σ H s) : X.K.In s.heap := I.ok.mod.kin.keeps I.bk
theorem Inv.lt (I : Inv X pins σ H s) : X.env.locals < s.heap.objs.size := let ⟨_, hn, _⟩ := I.loc; hn.lt
theorem Inv.sz (I : Inv X pins σ H s) : X.s₀.heap.objs.size ≤ s.heap.objs.size := Nat.le_trans I.ok.above (Nat.le_of_lt I.lt)
theorem Inv.nofs (I : Inv X pins σ H s) {a : Addr} (h : s.heap.objs.size ≤ a) : a ∉ X.fs := fun hb => by
  obtain ⟨_, o, ho, _⟩ := I.ok.funs.mem hb
  exact absurd (Nat.lt_of_lt_of_le (Heap.lt_size ho) (Nat.le_trans I.sz h)) (Nat.lt_irrefl _)
theorem Inv.cne (I : Inv X pins σ H s) : ∀ x c, X.env.cells.lookup x = some c → c ≠ X.env.locals := fun x c e z => by
  obtain ⟨v, o, ho, hd⟩ := I.cell x c e
  obtain ⟨m, ⟨o', es, ep, ho', hd', _⟩, _⟩ := I.loc
  rw [z, ho'] at ho; cases ho; rw [hd'] at hd; cases hd
theorem Inv.funs (I : Inv X pins σ H s) : s.heap.FunFrames X.base X.outer := by
  have all : ∀ (l : List Env), (∀ b ∈ frs l, b ∈ X.fs) → X.s₀.heap.FunFrames X.base l → s.heap.FunFrames X.base l := by
    intro l
    induction l with
    | nil => intro _ _; trivial
    | cons env r ih =>
      intro hs hl
      obtain ⟨hk, ⟨L, o, hf, hn, ho, hd⟩, hr⟩ := hl
      have hL : L ∈ X.fs := hs L (by unfold frs; rw [List.filterMap_cons, hf]; exact List.mem_cons_self)
      obtain ⟨sl, e⟩ := I.base.slot L o ho (I.ok.frf L hL) hL fun z => I.ok.exfs L z hL
      exact ⟨hk, ⟨L, _, hf, hn, e, hd⟩, ih (fun b hb => hs b (by unfold frs; rw [List.filterMap_cons, hf]; exact List.mem_cons_of_mem _ hb)) hr⟩
  exact all X.outer (fun _ hb => hb) I.ok.funs
theorem Inv.stack (I : Inv X pins σ H s) : s.heap.FunFrames X.base X.stack := by
  rcases I.ok.stk with e | ⟨e, hf⟩
  · rw [e]; exact I.funs
  · rw [e]
    obtain ⟨m, hn, _⟩ := I.loc
    refine .cons (by rw [I.ok.kind]; decide) hf hn ?_ I.funs
    exact Heap.get?_none_of_le (Nat.le_trans I.ok.bsz I.ok.above)
theorem Inv.stkSub (I : Inv X pins σ H s) : ∀ b ∈ frs X.stack, b ∈ X.env.locals :: X.fs := fun b hb => by
  rcases I.ok.stk with e | ⟨e, hf⟩
  · rw [e] at hb; exact List.mem_cons_of_mem _ hb
  · rw [e] at hb
    unfold frs at hb
    rw [List.filterMap_cons, hf] at hb
    exact hb
theorem Inv.stkFree (I : Inv X pins σ H s) : ∀ b ∈ frs X.stack, H b = none := fun b hb => by
  rcases List.mem_cons.mp (I.stkSub b hb) with e | hb
  · rw [e]; exact I.free
  · obtain ⟨_, o, ho, _⟩ := I.ok.funs.mem hb
    exact I.base.free b o ho (I.ok.frf b hb) fun z => I.ok.exfs b z hb
theorem Inv.step {g' : Array GenState} {t' : Nat} {d' : Drawn} {ch : List Addr} (I : Inv X pins σ H s)
    (hch : ∀ b ∈ ch, (b ∈ X.ex ∨ X.s₀.heap.objs.size ≤ b) ∧ b ≠ X.env.locals ∧ (∀ x c, X.env.cells.lookup x = some c → c ≠ b) ∧ ∀ p ∈ X.pn ++ pins, p.1 ≠ b)
    (keep : ∀ b o, b ≠ X.env.locals → b ∉ X.fs → b ∉ ch → s.heap.get? b = some o → H b = none → h'.get? b = some o)
    (slot : ∀ b o, b ≠ X.env.locals → b ∈ X.fs → b ∉ ch → s.heap.get? b = some o → H b = none → ∃ sl, h'.get? b = some { o with slots := sl }) (free : ∀ b o, b ∉ ch → s.heap.get? b = some o → H b = none → H' b = none)
    (there : ∀ b o, b ∉ ch → s.heap.get? b = some o → ∃ o', h'.get? b = some o')
    (tups : ∀ b xs, H b = some (.tup xs) → H' b = some (.tup xs)) (frzs : ∀ b o u, H b = some (.frz o u) → H' b = some (.frz o u)) (tbls : ∀ b ps, H b = some (.tbl ps) → ∃ more, H' b = some (.tbl (ps ++ more)))
    (ns : ∀ m, s.heap.Ns X.env.locals m → h'.Ns X.env.locals m) (hok : HOk X.prog X.w H' h') (hg : AllBare g') :
    Inv X pins σ H' { s with heap := h', gens := g', drawn := d', toks := t' } := by
  have neL : ∀ b o, X.s₀.heap.get? b = some o → b ≠ X.env.locals := fun b o e => Nat.ne_of_lt (Nat.lt_of_lt_of_le (Heap.lt_size e) I.ok.above)
  have neC : ∀ b o, X.s₀.heap.get? b = some o → b ∉ X.ex → b ∉ ch := fun b o e hx hb => by
    rcases (hch b hb).1 with z | z
    · exact hx z
    · exact absurd (Nat.lt_of_lt_of_le (Heap.lt_size e) z) (Nat.lt_irrefl _)
  have cellK : ∀ x c, X.env.cells.lookup x = some c → ∀ v, s.heap.IsCell c v → h'.IsCell c v := fun x c e v ⟨o, ho, hd⟩ => by
    have nch : c ∉ ch := fun z => (hch c z).2.2.1 x c e rfl
    by_cases hc : c ∈ X.fs
    · obtain ⟨sl, q⟩ := slot c o (I.cne x c e) hc nch ho (I.freeC x c e)
      exact ⟨_, q, hd⟩
    · exact ⟨o, keep c o (I.cne x c e) hc nch ho (I.freeC x c e), hd⟩
  refine ⟨I.ok, I.os, hg, ⟨fun b o e n hb hx => ?_, fun b o e n hb hx => ?_, fun b o e n hx => ?_, fun b o e hx => ?_, fun b xs e => tups b xs (I.base.tups b xs e), fun b o xs e => frzs b o xs (I.base.frzs b o xs e), fun b ps e => ?_⟩, ?_, fun x c e => ?_, ?_, fun x c e => ?_, fun p hp => ?_, hok, I.len⟩
  · exact keep b o (neL b o e) hb (neC b o e hx) (I.base.keep b o e n hb hx) (I.base.free b o e n hx)
  · obtain ⟨sl, e1⟩ := I.base.slot b o e n hb hx
    obtain ⟨sl', e2⟩ := slot b _ (neL b o e) hb (neC b o e hx) e1 (I.base.free b o e n hx)
    exact ⟨sl', e2⟩
  · obtain ⟨o', e1⟩ := I.base.there b o e hx
    exact free b o' (neC b o e hx) e1 (I.base.free b o e n hx)
  · obtain ⟨o', e1⟩ := I.base.there b o e hx
    exact there b o' (neC b o e hx) e1
  · obtain ⟨m1, e1⟩ := I.base.tbls b ps e
    obtain ⟨m2, e2⟩ := tbls b _ e1
    exact ⟨m1 ++ m2, by rw [e2, Array.append_assoc]⟩
  · obtain ⟨m, hn, hl⟩ := I.loc
    refine ⟨m, ns m hn, fun i x v e1 e2 e3 => ?_⟩
    obtain ⟨u, r, l⟩ := hl i x v e1 e2 e3
    refine ⟨u, r, ?_⟩
    rcases l with l | ⟨k, c, e, z⟩
    · exact .inl l
    · exact .inr ⟨k, c, e, cellK x c e _ z⟩
  · obtain ⟨v, z⟩ := I.cell x c e
    exact ⟨v, cellK x c e v z⟩
  · obtain ⟨m, ⟨o, _, _, ho, _⟩, _⟩ := I.loc
    exact free _ o (fun z => (hch _ z).2.1 rfl) ho I.free
  · obtain ⟨v, o, ho, hd⟩ := I.cell x c e
    exact free c o (fun z => (hch c z).2.2.1 x c e rfl) ho (I.freeC x c e)
  · obtain ⟨e, n, ne, nf, d⟩ := I.pin p hp
    have nch : p.1 ∉ ch := fun z => (hch p.1 z).2.2.2 p hp rfl
    exact ⟨keep p.1 p.2 ne nf nch e n, free p.1 p.2 nch e n, ne, nf, d⟩
theorem Inv.un {t' : Nat} (I : Inv X pins σ H s) (u : Un X.fs [] H H' s.heap h') (hok : HOk X.prog X.w H' h') : Inv X pins σ H' { s with heap := h', toks := t' } := by
  obtain ⟨m, ⟨o, es, ep, ho, r⟩, _⟩ := id I.loc
  obtain ⟨sl, hL⟩ := u.any ho I.free (by simp)
  exact I.step (g' := s.gens) (d' := s.drawn) (ch := []) (fun _ z => nomatch z) (fun b o _ hb _ e n => u.keep b o e n hb (by simp)) (fun b o _ hb _ e n => u.slot b o e n hb (by simp)) (fun b o _ e n => u.free b o e n (by simp)) (fun b o _ e => u.there b o e (by simp)) u.tups u.frzs u.tbls (fun m' hm => by
    obtain ⟨o', es', ep', ho', r'⟩ := hm
    rw [ho] at ho'; cases ho'
    exact ⟨_, es', ep', hL, r'⟩) hok I.bare
theorem Inv.call {g' : Array GenState} {t' : Nat} {d' : Drawn} {ch : List Addr} (I : Inv X pins σ H s) (u : Un (frs X.stack) ch H H' s.heap h') (hok : HOk X.prog X.w H' h') (hg : AllBare g')
    (hch : ∀ b ∈ ch, (b ∈ X.ex ∨ X.s₀.heap.objs.size ≤ b) ∧ b ≠ X.env.locals ∧ (∀ x c, X.env.cells.lookup x = some c → c ≠ b) ∧ ∀ p ∈ X.pn ++ pins, p.1 ≠ b) :
    Inv X pins σ H' { s with heap := h', gens := g', drawn := d', toks := t' } := by
  obtain ⟨m, ⟨o, es, ep, ho, r⟩, _⟩ := id I.loc
  obtain ⟨sl, hL⟩ := u.any ho I.free fun z => (hch _ z).2.1 rfl
  exact I.step (ch := ch) hch (fun b o hL hb hc e n => u.keep b o e n (fun z => (List.mem_cons.mp (I.stkSub b z)).elim hL hb) hc) (fun b o _ _ hc e n => u.any e n hc) (fun b o hc e n => u.free b o e n hc) (fun b o hc e => u.there b o e hc) u.tups u.frzs u.tbls (fun m' hm => by
    obtain ⟨o', es', ep', ho', r'⟩ := hm
    rw [ho] at ho'; cases ho'
    exact ⟨_, es', ep', hL, r'⟩) hok hg
theorem Inv.turned {t' : Nat} {it : Addr} (I : Inv X pins σ H s) (k : ∀ b o, b ≠ it → s.heap.get? b = some o → h'.get? b = some o) (hn : H it = none) (hL : it ≠ X.env.locals)
    (h1 : it ∈ X.ex ∨ X.s₀.heap.objs.size ≤ it) (h2 : ∀ x c, X.env.cells.lookup x = some c → c ≠ it) (h3 : ∀ p ∈ X.pn ++ pins, p.1 ≠ it) : Inv X pins σ H { s with heap := h', toks := t' } := by
  have nit : ∀ b u, H b = some u → b ≠ it := fun b u e z => by rw [z, hn] at e; cases e
  refine I.step (g' := s.gens) (d' := s.drawn) (ch := [it]) (fun b hb => ?_) (fun b o _ _ hc e _ => k b o (fun z => hc (by simp [z])) e) (fun b o _ _ hc e _ => ⟨o.slots, k b o (fun z => hc (by simp [z])) e⟩) (fun _ _ _ _ n => n)
    (fun b o hc e => ⟨o, k b o (fun z => hc (by simp [z])) e⟩) (fun _ _ e => e) (fun _ _ _ e => e) (fun b ps e => ⟨#[], by rw [e]; simp⟩) (fun m hm => ?_) (fun b u e => ?_) I.bare
  · have e : b = it := by simpa using hb
    subst e
    exact ⟨h1, hL, h2, h3⟩
  · obtain ⟨o, es, ep, ho, r⟩ := hm
    exact ⟨o, es, ep, k _ o (Ne.symm hL) ho, r⟩
  · refine (I.hok b u e).stay (fun c v hc q => k c v ?_ q) (fun _ q => q) fun _ _ q => q
    rcases hc with z | z
    · rw [z]; exact nit b u e
    · exact nit c _ z
theorem Inv.tok (I : Inv X pins σ H s) (t : Nat) : Inv X pins σ H { s with toks := t } := I.un (h' := s.heap) (t' := t) Un.refl I.hok
theorem Inv.kept {t' : Nat} (I : Inv X pins σ H s) (k : ∀ b u, s.heap.get? b = some u → h'.get? b = some u) : Inv X pins σ H { s with heap := h', toks := t' } := I.un (Un.kept k) (I.hok.kept k)
theorem Inv.laid {a : Addr} {o : HO} {t' : Nat} (I : Inv X pins σ H s) (k : ∀ b u, s.heap.get? b = some u → h'.get? b = some u) (hp : s.heap.objs.size ≤ a) (new : ObjOk X.prog X.w (upd H a o) h' a o) :
    Inv X pins σ (upd H a o) { s with heap := h', toks := t' } := I.un (Un.laid k hp (I.hok.fresh hp)) (I.hok.laid k hp new)
theorem Inv.write {x e : Addr} {o : HO} {t' : Nat} (I : Inv X pins σ H s) (mu : Mut (H x)) (he : e = x ∨ H e = some (.own x)) (k : ∀ b u, b ≠ e → s.heap.get? b = some u → h'.get? b = some u) (heo : ∃ u, h'.get? e = some u)
    (new : ObjOk X.prog X.w (upd H x o) h' x o) : Inv X pins σ (upd H x o) { s with heap := h', toks := t' } := I.un (Un.write mu he k heo) (I.hok.write mu he k heo new)
theorem Inv.pins_of {pins' : List (Addr × Obj)} (I : Inv X pins σ H s) (h : ∀ p ∈ pins', s.heap.get? p.1 = some p.2 ∧ H p.1 = none ∧ p.1 ≠ X.env.locals ∧ p.1 ∉ X.fs ∧ ∀ v, p.2.data ≠ .cell v) : Inv X pins' σ H s :=
  ⟨I.ok, I.os, I.bare, I.base, I.loc, I.cell, I.free, I.freeC, fun p hp => (List.mem_append.mp hp).elim (fun z => I.pin p (List.mem_append_left _ z)) (h p), I.hok, I.len⟩
theorem nodup_ix {N : List Str} (hN : N.Nodup) {i j : Nat} {x : Str} (a : N[i]? = some x) (b : N[j]? = some x) : i = j := by
  obtain ⟨h1, e1⟩ := List.getElem?_eq_some_iff.mp a
  obtain ⟨h2, e2⟩ := List.getElem?_eq_some_iff.mp b
  exact (List.getElem_inj hN).mp (e1.trans e2.symm)
theorem store_ok2 {M : Model} {A : Around} {E : Value → Shared → Prop} {i : Nat} {x : Str} {v : V} {u : Value} {Q : Unit → Shared → Prop} (I : Inv X pins σ H s) (hN : X.N.Nodup) (hi : X.N[i]? = some x) (hx : Loc X.env.scope x) (r : RelV v u)
    (h : ∀ s', Inv X pins (σ.set i (some v)) H s' → (∃ a, Heap.SameBut a s.heap s'.heap ∧ (a = X.env.locals ∨ X.env.cells.lookup x = some a)) → Q () s') (hf : X.fn x = true ∨ X.env.scope.names.lookup x = some .local := by first | exact .inl rfl | exact .inr rfl | assumption) : wpAny M A (storeName X.env x u) Q E s := by
  obtain ⟨m, hn, hl⟩ := id I.loc
  have hcls : (X.env.scope.kind == .class || (X.env.scope.kind == .module && X.env.locals != X.env.globals)) = false := by rw [I.ok.kind]; rfl
  have hiσ : i < σ.length := by rw [I.len]; exact (List.getElem?_eq_some_iff.mp hi).1
  have cne := I.cne
  have tracked : ∀ {a : Addr} {h' : Heap}, (∃ o, s.heap.get? a = some o ∧ H a = none) → Heap.SameBut a s.heap h' → HOk X.prog X.w H h' := fun {a h'} ha hs b ob e => by
    obtain ⟨_, _, hfree⟩ := ha
    refine (I.hok b ob e).stay (fun c w' hc q => (hs.2 c ?_).trans q) (fun _ q => q) fun _ _ q => q
    rintro rfl
    rcases hc with rfl | hc
    · rw [hfree] at e; cases e
    · rw [hfree] at hc; cases hc
  rcases hx with hk | hk
  · refine wpAny_storeName_local hk hn (fun h' hn' hs => ?_) hcls
    obtain ⟨oL, _, _, hoL, _⟩ := id hn
    refine h _ ⟨I.ok, I.os, I.bare, ⟨fun b o e n hb hx => ?_, fun b o e n hb hx => ?_, I.base.free, fun b o e hx => ?_, I.base.tups, I.base.frzs, I.base.tbls⟩, ⟨_, hn', fun j y v' e1 e2 e3 => ?_⟩, fun y c e => ?_, I.free, I.freeC, fun p hp => ?_, tracked ⟨oL, hoL, I.free⟩ hs, by simpa using I.len⟩ ⟨_, hs, .inl rfl⟩
    · exact (hs.2 b (Nat.ne_of_lt (Nat.lt_of_lt_of_le (Heap.lt_size e) I.ok.above))).trans (I.base.keep b o e n hb hx)
    · obtain ⟨sl, e1⟩ := I.base.slot b o e n hb hx
      exact ⟨sl, (hs.2 b (Nat.ne_of_lt (Nat.lt_of_lt_of_le (Heap.lt_size e) I.ok.above))).trans e1⟩
    · obtain ⟨o', e1⟩ := I.base.there b o e hx
      exact ⟨o', (hs.2 b (Nat.ne_of_lt (Nat.lt_of_lt_of_le (Heap.lt_size e) I.ok.above))).trans e1⟩
    · by_cases hj : j = i
      · subst hj
        rw [hi] at e1; cases e1
        rw [List.getElem?_set_self hiσ] at e2
        cases e2
        exact ⟨u, r, .inl ⟨hk, by simp⟩⟩
      · rw [List.getElem?_set_ne (Ne.symm hj)] at e2
        obtain ⟨u', r', q⟩ := hl j y v' e1 e2 e3
        refine ⟨u', r', ?_⟩
        rcases q with ⟨k, e⟩ | ⟨k, c, e, z⟩
        · refine .inl ⟨k, ?_⟩
          have : y ≠ x := fun e => hj (nodup_ix hN e1 (e ▸ hi))
          simp [this, e]
        · exact .inr ⟨k, c, e, z.sameBut hs (cne y c e)⟩
    · obtain ⟨w', z⟩ := I.cell y c e
      exact ⟨w', z.sameBut hs (cne y c e)⟩
    · obtain ⟨e, n, ne, nf, d⟩ := I.pin p hp
      exact ⟨(hs.2 p.1 ne).trans e, n, ne, nf, d⟩
  · have hfn : X.fn x = true := by
      rcases hf with z | z
      · exact z
      · rw [z] at hk; cases hk
    obtain ⟨c, hc⟩ := I.ok.has x (.inl hk)
    obtain ⟨w', z⟩ := I.cell x c hc
    refine wpAny_storeName_cell I.ok.kind hk hc z (fun h' hc' hs => ?_)
    obtain ⟨oc, hoc, hocd⟩ := id z
    refine h { s with heap := h' } ⟨I.ok, I.os, I.bare, ⟨fun b o e n hb hx => ?_, fun b o e n hb hx => ?_, I.base.free, fun b o e hx => ?_, I.base.tups, I.base.frzs, I.base.tbls⟩, ⟨m, hn.sameBut hs (Ne.symm (cne x c hc)), fun j y v' e1 e2 e3 => ?_⟩, fun y c' e => ?_, I.free, I.freeC, fun p hp => ?_, tracked ⟨oc, hoc, I.freeC x c hc⟩ hs, by simpa using I.len⟩ ⟨c, hs, .inr hc⟩
    · exact (hs.2 b (Nat.ne_of_lt (Nat.lt_of_lt_of_le (Heap.lt_size e) (I.ok.cab x c hfn hc)))).trans (I.base.keep b o e n hb hx)
    · obtain ⟨sl, e1⟩ := I.base.slot b o e n hb hx
      exact ⟨sl, (hs.2 b (Nat.ne_of_lt (Nat.lt_of_lt_of_le (Heap.lt_size e) (I.ok.cab x c hfn hc)))).trans e1⟩
    · obtain ⟨o', e1⟩ := I.base.there b o e hx
      exact ⟨o', (hs.2 b (Nat.ne_of_lt (Nat.lt_of_lt_of_le (Heap.lt_size e) (I.ok.cab x c hfn hc)))).trans e1⟩
    · by_cases hj : j = i
      · subst hj
        rw [hi] at e1; cases e1
        rw [List.getElem?_set_self hiσ] at e2
        cases e2
        exact ⟨u, r, .inr ⟨.inl hk, c, hc, hc'⟩⟩
      · rw [List.getElem?_set_ne (Ne.symm hj)] at e2
        obtain ⟨u', r', q⟩ := hl j y v' e1 e2 e3
        refine ⟨u', r', ?_⟩
        rcases q with q | ⟨k, c', e, z'⟩
        · exact .inl q
        · refine .inr ⟨k, c', e, z'.sameBut hs ?_⟩
          rintro rfl
          exact hj (nodup_ix hN e1 (I.ok.inj _ _ _ e hc ▸ hi))
    · by_cases hcc : c' = c
      · subst hcc; exact ⟨_, hc'⟩
      · obtain ⟨w2, z2⟩ := I.cell y c' e
        exact ⟨w2, z2.sameBut hs hcc⟩
    · obtain ⟨e, n, ne, nf, d⟩ := I.pin p hp
      refine ⟨(hs.2 p.1 ?_).trans e, n, ne, nf, d⟩
      intro q
      rw [q, hoc] at e
      have q' : oc = p.2 := Option.some.inj e
      exact d w' (by rw [← q']; exact hocd)
theorem store_ok {M : Model} {A : Around} {E : Value → Shared → Prop} {i : Nat} {x : Str} {v : V} {u : Value} {Q : Unit → Shared → Prop} (I : Inv X pins σ H s) (hN : X.N.Nodup) (hi : X.N[i]? = some x) (hx : Loc X.env.scope x) (r : RelV v u)
    (h : ∀ s', Inv X pins (σ.set i (some v)) H s' → Q () s') (hf : X.fn x = true ∨ X.env.scope.names.lookup x = some .local := by first | exact .inl rfl | exact .inr rfl | assumption) : wpAny M A (storeName X.env x u) Q E s :=
  store_ok2 I hN hi hx r (fun s' I' _ => h s' I') hf
theorem Inv.call' {s' : Shared} {ch : List Addr} (I : Inv X pins σ H s) (ho : s'.os = s.os) (u : Un (frs X.stack) ch H H' s.heap s'.heap) (hok : HOk X.prog X.w H' s'.heap) (hg : AllBare s'.gens)
    (hch : ∀ b ∈ ch, (b ∈ X.ex ∨ X.s₀.heap.objs.size ≤ b) ∧ b ≠ X.env.locals ∧ (∀ x c, X.env.cells.lookup x = some c → c ≠ b) ∧ ∀ p ∈ X.pn ++ pins, p.1 ≠ b) : Inv X pins σ H' s' := by
  obtain ⟨h', g', d', t', o'⟩ := s'
  have e : o' = s.os := ho
  subst e
  exact I.call (g' := g') (t' := t') (d' := d') u hok hg hch
end
abbrev XK := Value → Option Addr → Hp → Prop
abbrev St := List (Option V)
abbrev VK := V → Hp → Prop
abbrev TE := St → Hp → VK → Prop
abbrev TT := St → Hp → (Bool → Hp → Prop) → Prop
abbrev TA := St → Hp → (List V → Hp → Prop) → Prop
structure Ends where
  nx : St → Hp → Prop
  rt : VK
  bk : St → Hp → Prop := fun _ _ => False
  ct : St → Hp → Prop := fun _ _ => False
abbrev TS := Ends → St → Hp → Prop
def EP (X : Cx) (pins : List (Addr × Obj)) (σ : St) (Q : VK) (u : Value) (s' : Shared) : Prop := ∃ v H', Inv X pins σ H' s' ∧ RelV v u ∧ Q v H'
def TP (X : Cx) (pins : List (Addr × Obj)) (σ : St) (Q : Bool → Hp → Prop) (b : Bool) (s' : Shared) : Prop := ∃ H', Inv X pins σ H' s' ∧ Q b H'
def AP (X : Cx) (pins : List (Addr × Obj)) (σ : St) (Q : List V → Hp → Prop) (us : List Value) (s' : Shared) : Prop := ∃ vs H', Inv X pins σ H' s' ∧ Vals vs us ∧ Q vs H'
def SP (X : Cx) (pins : List (Addr × Obj)) (D : Ends) (f : Flow) (s' : Shared) : Prop :=
  match f with
  | .next => ∃ σ' H', Inv X pins σ' H' s' ∧ D.nx σ' H'
  | .brk => ∃ σ' H', Inv X pins σ' H' s' ∧ D.bk σ' H'
  | .cont => ∃ σ' H', Inv X pins σ' H' s' ∧ D.ct σ' H'
  | .ret u => ∃ v σ' H', Inv X pins σ' H' s' ∧ RelV v u ∧ D.rt v H'
def PE (X : Cx) (e : Expr) (t : TE) : Prop :=
  ∀ (pins : List (Addr × Obj)) (s : Shared) (σ : St) (H : Hp) (Q : VK), Inv X pins σ H s → t σ H Q → wpAny (model X.prog X.w) X.A (eval e X.env) (EP X pins σ Q) X.xe s
def PT (X : Cx) (e : Expr) (t : TT) : Prop :=
  ∀ (pins : List (Addr × Obj)) (s : Shared) (σ : St) (H : Hp) (Q : Bool → Hp → Prop), Inv X pins σ H s → t σ H Q → wpAny (model X.prog X.w) X.A (isTrue e X.env (eval e X.env)) (TP X pins σ Q) X.xe s
def PW (X : Cx) (e : Expr) (t : TT) : Prop :=
  ∀ (whole : Sem Value) (pins : List (Addr × Obj)) (s : Shared) (σ : St) (H : Hp) (Q : Bool → Hp → Prop), Inv X pins σ H s → t σ H Q → wpAny (model X.prog X.w) X.A (isTrue e X.env whole) (TP X pins σ Q) X.xe s
theorem PW.pt {X : Cx} {e : Expr} {t : TT} (h : PW X e t) : PT X e t := h _
def PA (X : Cx) (es : List Expr) (t : TA) : Prop :=
  ∀ (pos : Pos) (pins : List (Addr × Obj)) (s : Shared) (σ : St) (H : Hp) (Q : List V → Hp → Prop), Inv X pins σ H s → t σ H Q → wpAny (model X.prog X.w) X.A (spliced (backTo pos (starEach es X.env))) (AP X pins σ Q) X.xe s
def PS (X : Cx) (st : Stmt) (t : TS) : Prop :=
  ∀ (pins : List (Addr × Obj)) (s : Shared) (σ : St) (H : Hp) (D : Ends), Inv X pins σ H s → t D σ H → wpAny (model X.prog X.w) X.A (exec st X.env) (SP X pins D) X.xe s
def PSs (X : Cx) (st : List Stmt) (t : TS) : Prop :=
  ∀ (pins : List (Addr × Obj)) (s : Shared) (σ : St) (H : Hp) (D : Ends), Inv X pins σ H s → t D σ H → wpAny (model X.prog X.w) X.A (execs st X.env) (SP X pins D) X.xe s
theorem thn {α : Type} {t : Sem α} {Q Q' : α → Shared → Prop} {M : Model} {A : Around} {E : Value → Shared → Prop} {s : Shared} (h : wpAny M A t Q E s) (hQ : ∀ a s, Q a s → Q' a s) : wpAny M A t Q' E s := wpAny_mono h hQ fun _ _ x => x
end L2
namespace L2
open PySem PySem.Spec PyProof.Rows
section
variable {X : Cx}
def tVar (i : Nat) : TE := fun σ H Q => ∃ v, σ[i]? = some (some v) ∧ Q v H
def tC (v : V) : TE := fun _ H Q => Q v H
theorem pe_var {i : Nat} {x : Str} {pos : Pos} (hN : X.N[i]? = some x) (hv : Vis X.env.scope x) (hd : (x == ("__debug__" : Str)) = false := by decide) (hcd : (x == ("__classdict__" : Str)) = false := by decide) : PE X (.Name x pos) (tVar i) := by
  intro pins s σ H Q I h
  obtain ⟨v, e, h⟩ := h
  obtain ⟨m, hn, hl⟩ := I.loc
  obtain ⟨u, r, l⟩ := hl i x v hN e hv
  have fin : EP X pins σ Q u s := ⟨v, H, I, r, h⟩
  rcases l with ⟨hk, hm⟩ | ⟨hk, c, hc, hcell⟩
  · exact wpAny_Name (wpAny_loadName_local I.ok.kind hk hn hm fin) hd
  · rcases hk with hk | hk
    · exact wpAny_Name (wpAny_loadName_cell I.ok.kind hk hc hcell fin) hd
    · exact wpAny_Name (wpAny_loadName_free I.ok.kind hk hc hcell fin hcd) hd
theorem pe_int {i j pos} : PE X (.Constant (.int i) j pos) (tC (.int i)) := fun _ _ _ H _ I h => wpAny_Constant_int ⟨.int i, H, I.tok _, ⟨_, rfl⟩, h⟩
theorem pe_bl {b j pos} : PE X (.Constant (.bool b) j pos) (tC (.bl b)) := fun _ _ _ H _ I h => Constant_bool ⟨.bl b, H, I, rfl, h⟩
theorem pe_non {j pos} : PE X (.Constant .none j pos) (tC .non) := fun _ _ _ H _ I h => Constant_none ⟨.non, H, I, rfl, h⟩
theorem pe_str {x j pos} : PE X (.Constant (.str x) j pos) (tC (.str x)) := fun _ _ _ H _ I h => Calls.Constant_str ⟨.str x, H, I.tok _, ⟨_, rfl⟩, h⟩
def Gl (X : Cx) (x : Str) : Prop := X.env.kindOf x = some .globalImplicit
theorem ld_glob {E : Value → Shared → Prop} {pins : List (Addr × Obj)} {s : Shared} {σ : St} {H : Hp} {x : Str} {u : Value} {pos : Pos} {Q : Value → Shared → Prop} (I : Inv X pins σ H s) (hg : Gl X x) (hm : X.mg x = some u) (h : Q u s)
    (hd : (x == ("__debug__" : Str)) = false := by decide) : wpAny (model X.prog X.w) X.A (eval (.Name x pos) X.env) Q E s :=
  Calls.Name_function_global I.ok.kind hg (Calls.loadGlobal_global (by rw [I.ok.glob]; exact I.mod.glob.keeps I.bk) hm h) hd
theorem ld_blt {E : Value → Shared → Prop} {pins : List (Addr × Obj)} {s : Shared} {σ : St} {H : Hp} {x : Str} {u : Value} {pos : Pos} {Q : Value → Shared → Prop} (I : Inv X pins σ H s) (hg : Gl X x) (hm : X.mg x = none) (hv : bootBuiltins x = some u) (h : Q u s)
    (hn : x ≠ "__name__" := by decide) (hd : (x == ("__debug__" : Str)) = false := by decide) : wpAny (model X.prog X.w) X.A (eval (.Name x pos) X.env) Q E s := by
  obtain ⟨mb, h1, h2⟩ := I.mod.blt
  exact Calls.Name_function_global I.ok.kind hg (Calls.loadGlobal_builtin (by rw [I.ok.glob]; exact I.mod.glob.keeps I.bk) hm (by rw [I.ok.blt]; exact h1.keeps I.bk) ((h2 x hn).trans hv) h) hd
theorem pe_glob {x : Str} {v : V} {u : Value} {pos : Pos} (hg : Gl X x) (hm : X.mg x = some u) (r : RelV v u) (hd : (x == ("__debug__" : Str)) = false := by decide) : PE X (.Name x pos) (tC v) :=
  fun _ _ _ H _ I h => ld_glob I hg hm ⟨v, H, I, r, h⟩ hd
theorem pe_bltn {x : Str} {v : V} {u : Value} {pos : Pos} (hg : Gl X x) (hm : X.mg x = none) (hv : bootBuiltins x = some u) (r : RelV v u) (hn : x ≠ "__name__" := by decide) (hd : (x == ("__debug__" : Str)) = false := by decide) : PE X (.Name x pos) (tC v) :=
  fun _ _ _ H _ I h => ld_blt I hg hm hv ⟨v, H, I, r, h⟩ hn hd
variable {a b : Expr} {ta tb : TE} {pos : Pos}
def PC (X : Cx) (op : CmpOp) (a b : Expr) (t : TE) : Prop :=
  ∀ (pins : List (Addr × Obj)) (s : Shared) (σ : St) (H : Hp) (Q : VK), Inv X pins σ H s → t σ H Q →
    wpAny (model X.prog X.w) X.A (eval a X.env) (fun v s₁ => wpAny (model X.prog X.w) X.A (eval b X.env) (fun u s₂ => wpAny (model X.prog X.w) X.A (compareOp op v u) (EP X pins σ Q) X.xe s₂) X.xe s₁) X.xe s
theorem nobehind (b : Expr) {op : CmpOp} (h : op ≠ .In) (h2 : op ≠ .NotIn) : behindInMarks op b = false := by
  have e1 : (op == CmpOp.In) = false := by cases op <;> first | rfl | exact absurd rfl h
  have e2 : (op == CmpOp.NotIn) = false := by cases op <;> first | rfl | exact absurd rfl h2
  cases b <;> simp [behindInMarks, e1, e2]
def tIsN (ta : TE) : TE := fun σ H Q => ta σ H fun x H1 => Q (.bl (decide (x = .non))) H1
theorem RelV.none_iff {x : V} {v : Value} (r : RelV x v) : (v == Value.none) = decide (x = .non) := by
  cases x with
  | non => cases r; rfl
  | bl _ => cases r; rfl
  | int _ => obtain ⟨t, rfl⟩ := r; rfl
  | str _ => obtain ⟨t, rfl⟩ := r; rfl
  | byt _ => obtain ⟨t, rfl⟩ := r; rfl
  | flt _ => obtain ⟨t, rfl⟩ := r; rfl
  | ref _ => cases r; rfl
  | ty _ => cases r; rfl
theorem pc_isN {j pos'} (ha : PE X a ta) : PC X .Is a (.Constant .none j pos') (tIsN ta) := by
  intro pins s σ H Q I h
  refine thn (ha pins s σ H _ I h) fun v s1 ⟨x, H1, I1, r1, q1⟩ => ?_
  exact Constant_none (is_none_gen ⟨.bl _, H1, I1, by rw [r1.none_iff]; rfl, q1⟩)
def tB (t : TE) : TT := fun σ H Q => t σ H fun x H1 => ∃ c, x = .bl c ∧ Q c H1
theorem pe_cmp {op : CmpOp} {t : TE} (h : PC X op a b t) (h1 : behindInMarks op b = false := by first | exact nobehind _ (by decide) (by decide) | rfl) : PE X (.Compare a [op] [b] pos) t := fun pins s σ H Q I hw => wpAny_Compare1 (h pins s σ H Q I hw) h1
theorem pt_cmp {op : CmpOp} {t : TE} (h : PC X op a b t) (h1 : behindInMarks op b = false := by first | exact nobehind _ (by decide) (by decide) | rfl) : PT X (.Compare a [op] [b] pos) (tB t) := by
  intro pins s σ H Q I hw
  refine wpAny_isTrue_Compare1 (thn (h pins s σ H _ I hw) fun v s1 h1 => thn h1 fun u s2 h2 => thn h2 fun c s3 ⟨x, H1, I1, r1, q1⟩ => ?_) h1
  obtain ⟨d, rfl, q⟩ := q1
  cases r1
  exact wpAny_truthy_bool ⟨H1, I1, q⟩
theorem pt_val {e : Expr} {t : TE} (h : PE X e t) (he : ∀ whole, isTrue e X.env whole = (do let v ← whole; standAt e.pos; holding [v] (truthy v)) := by intro _; rfl) : PT X e (tB t) := by
  intro pins s σ H Q I hw
  refine isTrue_plain (thn (h pins s σ H _ I hw) fun v s1 ⟨x, H1, I1, r1, q1⟩ => ?_) (he _)
  obtain ⟨d, rfl, q⟩ := q1
  cases r1
  exact wpAny_truthy_bool ⟨H1, I1, q⟩
variable {tA tB' : TT} {rest : List Expr}
def tAnd (t u : TT) : TT := fun σ H Q => t σ H fun c H1 => if c = true then u σ H1 Q else Q false H1
def tOr (t u : TT) : TT := fun σ H Q => t σ H fun c H1 => if c = true then Q true H1 else u σ H1 Q
def tNot (t : TT) : TT := fun σ H Q => t σ H fun c H1 => Q (!c) H1
theorem pw_and1 (ha : PT X a tA) : PW X (.BoolOp .And [a] pos) tA := by
  intro wh pins s σ H Q I h
  refine isTrue_and (thn (ha pins s σ H Q I h) fun c s1 e => ?_)
  cases c with
  | true => exact isTrue_and_nil e
  | false => exact e
theorem pw_or1 (ha : PT X a tA) : PW X (.BoolOp .Or [a] pos) tA := by
  intro wh pins s σ H Q I h
  refine isTrue_or (thn (ha pins s σ H Q I h) fun c s1 e => ?_)
  cases c with
  | false => exact isTrue_or_nil e
  | true => exact e
theorem pw_and (ha : PT X a tA) (hb : PW X (.BoolOp .And (b :: rest) pos) tB') : PW X (.BoolOp .And (a :: b :: rest) pos) (tAnd tA tB') := by
  intro wh pins s σ H Q I h
  refine isTrue_and (thn (ha pins s σ H _ I h) fun c s1 ⟨H1, I1, q1⟩ => ?_)
  cases c with
  | true => exact hb wh pins s1 σ H1 Q I1 q1
  | false => exact ⟨H1, I1, q1⟩
theorem pw_or (ha : PT X a tA) (hb : PW X (.BoolOp .Or (b :: rest) pos) tB') : PW X (.BoolOp .Or (a :: b :: rest) pos) (tOr tA tB') := by
  intro wh pins s σ H Q I h
  refine isTrue_or (thn (ha pins s σ H _ I h) fun c s1 ⟨H1, I1, q1⟩ => ?_)
  cases c with
  | true => exact ⟨H1, I1, q1⟩
  | false => exact hb wh pins s1 σ H1 Q I1 q1
theorem pt_not (ha : PT X a tA) : PT X (.UnaryOp .Not a pos) (tNot tA) := by
  intro pins s σ H Q I h
  exact isTrue_not (ha pins s σ H (fun c H1 => Q (!c) H1) I h)
def tAndV (ta tb : TE) : TE := fun σ H Q => ta σ H fun x H1 => ∃ c, x = .bl c ∧ if c = true then tb σ H1 Q else Q (.bl false) H1
def tNotV (ta : TE) : TE := fun σ H Q => ta σ H fun x H1 => ∃ c, x = .bl c ∧ Q (.bl (!c)) H1
theorem pe_one {op} {t : TE} (h : PE X a t) : PE X (.BoolOp op [a] pos) t := fun pins s σ H Q I hw => BoolOp_one (h pins s σ H Q I hw)
theorem pe_and (ha : PE X a ta) (hb : PE X (.BoolOp .And (b :: rest) pos) tb) : PE X (.BoolOp .And (a :: b :: rest) pos) (tAndV ta tb) := by
  intro pins s σ H Q I h
  refine BoolOp_and (thn (ha pins s σ H _ I h) fun v s1 ⟨x, H1, I1, r1, q1⟩ => ?_)
  obtain ⟨c, rfl, q1⟩ := q1
  cases r1
  refine wpAny_truthy_bool ?_
  cases c with
  | true => exact hb pins s1 σ H1 Q I1 q1
  | false => exact ⟨.bl false, H1, I1, rfl, q1⟩
theorem pe_not (ha : PE X a ta) : PE X (.UnaryOp .Not a pos) (tNotV ta) := by
  intro pins s σ H Q I h
  refine UnaryOp_ (thn (ha pins s σ H _ I h) fun v s1 ⟨x, H1, I1, r1, q1⟩ => ?_)
  obtain ⟨c, rfl, q1⟩ := q1
  cases r1
  exact not_of (wpAny_truthy_bool ⟨.bl (!c), H1, I1, rfl, q1⟩)
end
end L2
namespace L2
open PySem PySem.Spec PyProof.Rows
def SqL (K : PySem.W.Frag) (H : Hp) (a : Addr) (xs : List V) : Prop :=
  Rd H a (.lst xs) ∨
    ∃ (o : Obj) (its : Array Value) (n : Nat), K.lookup a = some o ∧ o.cls = .type "list" ∧ o.dict = none ∧ o.data = .seq its n ∧ its.size ≤ sizeLine ∧ Vals xs its.toList
def SqT (K : PySem.W.Frag) (H : Hp) (a : Addr) (xs : List V) : Prop :=
  Rd H a (.tup xs) ∨
    ∃ (o : Obj) (its : Array Value) (n : Nat), K.lookup a = some o ∧ o.cls = .type "tuple" ∧ o.data = .seq its n ∧ its.size ≤ sizeLine ∧ Vals xs its.toList
def absV : Value → Option V
  | .none => some .non
  | .bool b => some (.bl b)
  | .int i _ => some (.int i)
  | .str x _ => some (.str x)
  | .bytes b _ => some (.byt b)
  | .float b _ => some (.flt b)
  | .ref a => some (.ref a)
  | .type n => some (.ty n)
  | _ => none
theorem RelV.abs {x : V} {u : Value} (r : RelV x u) : absV u = some x := by
  cases x with
  | non => cases r; rfl
  | bl _ => cases r; rfl
  | int _ => obtain ⟨t, rfl⟩ := r; rfl
  | str _ => obtain ⟨t, rfl⟩ := r; rfl
  | byt _ => obtain ⟨t, rfl⟩ := r; rfl
  | flt _ => obtain ⟨t, rfl⟩ := r; rfl
  | ref _ => cases r; rfl
  | ty _ => cases r; rfl
theorem RelV.inj {x y : V} {u : Value} (r : RelV x u) (q : RelV y u) : x = y := Option.some.inj (r.abs.symm.trans q.abs)
theorem Vals.inj : ∀ {xs ys : List V} {us : List Value}, Vals xs us → Vals ys us → xs = ys
  | _, _, _, .nil, .nil => rfl
  | _, _, _, .cons r t, .cons r' t' => by rw [r.inj r', Vals.inj t t']
section
variable {X : Cx} {pins : List (Addr × Obj)} {σ : St} {H : Hp} {s : Shared} {a : Addr} {xs ys : List V}
theorem SqL.of {K : PySem.W.Frag} (h : H a = some (.lst xs)) : SqL K H a xs := .inl (.inl h)
theorem SqT.of {K : PySem.W.Frag} (h : H a = some (.tup xs)) : SqT K H a xs := .inl (.inl h)
theorem Inv.list (I : Inv X pins σ H s) (h : SqL X.K H a xs) : ∃ its : List Value, Vals xs its ∧ PlainL s.heap a its.toArray ∧ xs.length ≤ sizeLine := by
  rcases h with h | ⟨o, its, n, hk, hc, hd, hs, hz, r⟩
  · obtain ⟨z, its, n, r, e⟩ := h.ok I.hok
    exact ⟨its, r, ⟨_, n, e, rfl, rfl, rfl⟩, z⟩
  · refine ⟨its.toList, r, ⟨o, n, I.kIn a o hk, hc, hd, by simpa using hs⟩, ?_⟩
    have e := r.length
    simp only [Array.length_toList] at e
    omega
theorem Inv.tuple (I : Inv X pins σ H s) (h : SqT X.K H a xs) : ∃ its : List Value, Vals xs its ∧ IsTup s.heap a its.toArray ∧ xs.length ≤ sizeLine := by
  rcases h with h | ⟨o, its, n, hk, hc, hs, hz, r⟩
  · obtain ⟨z, its, r, p⟩ := h.ok I.hok
    exact ⟨its, r, p, z⟩
  · refine ⟨its.toList, r, ⟨o, I.kIn a o hk, hc, n, by simpa using hs⟩, ?_⟩
    have e := r.length
    simp only [Array.length_toList] at e
    omega
theorem Inv.list_inj (I : Inv X pins σ H s) (h : SqL X.K H a xs) (h' : SqL X.K H a ys) : xs = ys := by
  obtain ⟨its, r, ⟨o, n, e, _, _, d⟩, _⟩ := I.list h
  obtain ⟨its', r', ⟨o', n', e', _, _, d'⟩, _⟩ := I.list h'
  rw [e] at e'; cases e'
  rw [d] at d'
  injection d' with d1 _
  have : its = its' := by simpa using congrArg Array.toList d1
  subst this
  exact r.inj r'
end
abbrev Cx.wish (X : Cx) (E : Value → Shared → Prop) : Cx := { X with xe := E }
abbrev Cx.nox (X : Cx) : Cx := X.wish fun _ _ => False
theorem Cx.Ok.wish {X : Cx} (ok : X.Ok) (E : Value → Shared → Prop) : (X.wish E).Ok :=
  ⟨ok.mod, ok.kind, ok.glob, ok.blt, ok.above, ok.inj, ok.has, ok.cab, ok.hd, ok.frames, ok.stk, ok.exf, ok.bs, ok.bsz, ok.noex, ok.exfs, ok.funs, ok.frf⟩
theorem Cx.Ok.unwish {X : Cx} {E : Value → Shared → Prop} (ok : (X.wish E).Ok) : X.Ok :=
  ⟨ok.mod, ok.kind, ok.glob, ok.blt, ok.above, ok.inj, ok.has, ok.cab, ok.hd, ok.frames, ok.stk, ok.exf, ok.bs, ok.bsz, ok.noex, ok.exfs, ok.funs, ok.frf⟩
section
variable {X : Cx} {pins : List (Addr × Obj)} {σ : St} {H : Hp} {s : Shared} {E : Value → Shared → Prop}
theorem Inv.wish (I : Inv X pins σ H s) (E : Value → Shared → Prop) : Inv (X.wish E) pins σ H s := ⟨I.ok.wish E, I.os, I.bare, I.base, I.loc, I.cell, I.free, I.freeC, I.pin, I.hok, I.len⟩
theorem Inv.unwish (I : Inv (X.wish E) pins σ H s) : Inv X pins σ H s := ⟨I.ok.unwish, I.os, I.bare, I.base, I.loc, I.cell, I.free, I.freeC, I.pin, I.hok, I.len⟩
theorem SP.unwish {D : Ends} {f : Flow} {s' : Shared} (h : SP (X.wish E) pins D f s') : SP X pins D f s' := by
  cases f with
  | next => obtain ⟨σ', H', I, q⟩ := h; exact ⟨σ', H', I.unwish, q⟩
  | brk => obtain ⟨σ', H', I, q⟩ := h; exact ⟨σ', H', I.unwish, q⟩
  | cont => obtain ⟨σ', H', I, q⟩ := h; exact ⟨σ', H', I.unwish, q⟩
  | ret u => obtain ⟨v, σ', H', I, r, q⟩ := h; exact ⟨v, σ', H', I.unwish, r, q⟩
theorem PSs.nox {st : List Stmt} {t : TS} (h : PSs X.nox st t) : PSs X st t := fun pins s σ H D I hw =>
  wpAny_mono (h pins s σ H D (I.wish _) hw) (fun _ _ q => q.unwish) fun _ _ z => False.elim z
end
section
variable {X : Cx} {st : Stmt} {rest : List Stmt} {t u : TS} {e : Expr} {te : TE} {pos : Pos}
def tNext : TS := fun D σ H => D.nx σ H
def tSeq (t u : TS) : TS := fun D σ H => t { D with nx := u D } σ H
theorem pss_nil : PSs X [] tNext := fun _ _ σ H _ I h => wpAny_execs_nil ⟨σ, H, I, h⟩
theorem pss_cons (h1 : PS X st t) (h2 : PSs X rest u) : PSs X (st :: rest) (tSeq t u) := by
  intro pins s σ H D I h
  refine wpAny_execs_cons (thn (h1 pins s σ H { D with nx := u D } I h) fun f s1 q => ?_)
  cases f with
  | next =>
    obtain ⟨σ', H', I', q⟩ := q
    exact h2 pins s1 σ' H' D I' q
  | ret v => exact q
  | brk => exact q
  | cont => exact q
theorem pss_one (h1 : PS X st t) : PSs X [st] t := by
  intro pins s σ H D I h
  refine wpAny_execs_cons (thn (h1 pins s σ H D I h) fun f s1 q => ?_)
  cases f with
  | next => exact wpAny_execs_nil q
  | ret v => exact q
  | brk => exact q
  | cont => exact q
theorem Inv.quiet {pins : List (Addr × Obj)} {σ : St} {H : Hp} {s : Shared} (I : Inv X pins σ H s) : interactive X.env = false := by simp [interactive, I.ok.kind]
def tDrop (te : TE) : TS := fun D σ H => te σ H fun _ H1 => D.nx σ H1
theorem ps_expr (he : PE X e te) (hs : swapsWith e none pos.line X.env = pure false := by rfl) : PS X (.Expr e pos) (tDrop te) := by
  intro pins s σ H D I h
  exact wpAny_Expr_any (thn (he pins s σ H _ I h) fun v s1 ⟨x, H1, I1, r1, q1⟩ => ⟨σ, H1, I1, q1⟩) I.quiet hs
def tRet (te : TE) : TS := fun D σ H => te σ H D.rt
theorem ps_ret (he : PE X e te) : PS X (.Return (some e) pos) (tRet te) := by
  intro pins s σ H D I h
  exact wpAny_Return_some (thn (he pins s σ H _ I h) fun v s1 ⟨x, H1, I1, r1, q1⟩ => ⟨x, σ, H1, I1, r1, q1⟩)
def tIfS (c : TT) (t u : TS) : TS := fun D σ H => c σ H fun b H1 => if b = true then t D σ H1 else u D σ H1
theorem ps_if {c : Expr} {a b : List Stmt} {tc : TT} (hc : PT X c tc) (ha : PSs X a t) (hb : PSs X b u) : PS X (.If c a b pos) (tIfS tc t u) := by
  intro pins s σ H D I h
  refine wpAny_If (thn (hc pins s σ H _ I h) fun d s1 ⟨H1, I1, q1⟩ => ?_)
  cases d with
  | true => exact ha pins s1 σ H1 D I1 q1
  | false => exact hb pins s1 σ H1 D I1 q1
def tNever : TS := fun _ _ _ => False
theorem ps_never : PS X st tNever := fun _ _ _ _ _ _ h => h.elim
end
abbrev TG := V → St → Hp → (St → Hp → Prop) → Prop
abbrev TGs := List V → St → Hp → (St → Hp → Prop) → Prop
def PG (X : Cx) (target : Expr) (t : TG) : Prop :=
  ∀ (pins : List (Addr × Obj)) (s : Shared) (σ : St) (H : Hp) (v : V) (u : Value) (Q : St → Hp → Prop), Inv X pins σ H s → RelV v u → t v σ H Q →
    wpAny (model X.prog X.w) X.A (assign target X.env u) (fun _ s' => ∃ σ' H', Inv X pins σ' H' s' ∧ Q σ' H') X.xe s
def PGs (X : Cx) (ts : List Expr) (t : TGs) : Prop :=
  ∀ (pins : List (Addr × Obj)) (s : Shared) (σ : St) (H : Hp) (vs : List V) (us : List Value) (Q : St → Hp → Prop), Inv X pins σ H s → Vals vs us → t vs σ H Q →
    wpAny (model X.prog X.w) X.A (assignInOrder ((assignEach ts X.env).map (·.2)) us) (fun _ s' => ∃ σ' H', Inv X pins σ' H' s' ∧ Q σ' H') X.xe s
abbrev TSet := V → V → V → Hp → (Hp → Prop) → Prop
def PSet (X : Cx) (t : TSet) : Prop :=
  ∀ (pins : List (Addr × Obj)) (s : Shared) (σ : St) (H : Hp) (o i v : V) (ov iv u : Value) (Q : Hp → Prop), Inv X pins σ H s → RelV o ov → RelV i iv → RelV v u → t o i v H Q →
    wpAny (model X.prog X.w) X.A (setItem ov iv u) (fun _ s' => ∃ H', Inv X pins σ H' s' ∧ Q H') X.xe s
section
variable {X : Cx} {pos : Pos}
def gName (i : Nat) : TG := fun v σ H Q => Q (σ.set i (some v)) H
theorem pg_name {i : Nat} {x : Str} (hN : X.N.Nodup) (hi : X.N[i]? = some x) (hx : Loc X.env.scope x) (hf : X.fn x = true ∨ X.env.scope.names.lookup x = some .local := by first | exact .inl rfl | exact .inr rfl | assumption) : PG X (.Name x pos) (gName i) := by
  intro pins s σ H v u Q I r h
  exact wpAny_assign_Name (store_ok I hN hi hx r (fun s' I' => ⟨_, H, I', h⟩) hf)
def gNil : TGs := fun vs σ H Q => vs = [] ∧ Q σ H
def gCons (t : TG) (u : TGs) : TGs := fun vs σ H Q => ∃ v r, vs = v :: r ∧ t v σ H fun σ' H' => u r σ' H' Q
theorem pgs_nil : PGs X [] gNil := by
  intro pins s σ H vs us Q I r h
  obtain ⟨e, h⟩ := h
  subst e
  cases r
  exact assignInOrder_nil ⟨σ, H, I, h⟩
theorem pgs_cons {e : Expr} {es : List Expr} {t : TG} {u : TGs} (h1 : PG X e t) (h2 : PGs X es u)
    (hs : (assignEach (e :: es) X.env).map (·.2) = assign e X.env :: (assignEach es X.env).map (·.2) := by rfl) : PGs X (e :: es) (gCons t u) := by
  intro pins s σ H vs us Q I r h
  obtain ⟨v, vr, e1, h⟩ := h
  subst e1
  cases r with
  | cons r rr =>
    rw [hs]
    refine assignInOrder_cons (thn (h1 pins s σ H _ _ _ I r h) fun _ s1 ⟨σ1, H1, I1, q1⟩ => ?_)
    exact h2 pins s1 σ1 H1 _ _ Q I1 rr q1
def gTup (K : PySem.W.Frag) (n : Nat) (t : TGs) : TG := fun v σ H Q => ∃ a xs, v = .ref a ∧ SqT K H a xs ∧ xs.length = n ∧ t xs σ H Q
theorem pg_tup {es : List Expr} {k : Nat} {t : TGs} {n : Nat} (hc : X.calm = true) (h : PGs X es t)
    (hn : (assignEach es X.env).length = n := by rfl) (hst : (assignEach es X.env).findIdx? (·.1) = none := by rfl) : PG X (.Tuple es k pos) (gTup X.K n t) := by
  intro pins s σ H v u Q I r hw
  obtain ⟨a, xs, e1, hq, hl, hw⟩ := hw
  subst e1
  cases r
  obtain ⟨its, rv, ht, hz⟩ := I.tuple hq
  refine assign_Tuple_tuple (I.ok.hd hc) ht (by simp [hn, ← hl, rv.length]) hst fun h' hx => ?_
  have I1 : Inv X pins σ H { s with heap := h' } := I.kept (t' := s.toks) fun b o e => hx b o (Nat.ne_of_lt (Heap.lt_size e)) e
  exact h pins _ σ H xs _ Q I1 (by simpa using rv) hw
def gSub (to ti : TE) (t : TSet) : TG := fun v σ H Q => to σ H fun o H1 => ti σ H1 fun i H2 => t o i v H2 fun H3 => Q σ H3
theorem pg_sub {o i : Expr} {to ti : TE} {t : TSet} (ho : PE X o to) (hi : PE X i ti) (hs : PSet X t)
    (ha : ∀ v, assign (.Subscript o i pos) X.env v = (do
      let ov ← holding [v] (eval o X.env)
      let iv ← holding [v, ov] (eval i X.env)
      standAt pos
      holding [v, ov, iv] (setItem ov iv v)
      release [v, ov, iv] []) := by intro _; rfl) : PG X (.Subscript o i pos) (gSub to ti t) := by
  intro pins s σ H v u Q I r h
  rw [ha]
  refine wpAny_bind (wpAny_holding (thn (ho pins s σ H _ I h) fun ov s1 ⟨x, H1, I1, r1, q1⟩ => ?_))
  refine wpAny_bind (wpAny_holding (thn (hi pins s1 σ H1 _ I1 q1) fun iv s2 ⟨y, H2, I2, r2, q2⟩ => ?_))
  refine wpAny_bind (wpAny_standAt (wpAny_bind (wpAny_holding (thn (hs pins s2 σ H2 x y v ov iv u _ I2 r1 r2 r q2) fun _ s3 ⟨H3, I3, q3⟩ => ?_))))
  exact wpAny_release ⟨σ, H3, I3, q3⟩
def tAsg (te : TE) (g : TG) : TS := fun D σ H => te σ H fun x H1 => g x σ H1 D.nx
theorem ps_asg {tg e : Expr} {te : TE} {g : TG} (he : PE X e te) (hg : PG X tg g) (hs : swapsWithSole [tg] e pos.line X.env = pure false := by rfl) (hw : swappedStores [tg] e X.env = pure none := by rfl)
    (h1 : (assignEach [tg] X.env).map (·.2) = [assign tg X.env] := by rfl) : PS X (.Assign [tg] e pos) (tAsg te g) := by
  intro pins s σ H D I h
  refine wpAny_Assign_stores (thn (he pins s σ H _ I h) fun v s1 ⟨x, H1, I1, r1, q1⟩ => ?_) hs hw
  rw [h1]
  exact thn (hg pins s1 σ H1 x v _ I1 r1 q1) fun _ s2 q => q
theorem ps_set {i : Nat} {x : Str} {e : Expr} {te : TE} {pos' : Pos} (hN : X.N.Nodup) (hi : X.N[i]? = some x) (hx : Loc X.env.scope x) (he : PE X e te) (hs : swapsWith e (some (.Name x pos')) pos.line X.env = pure false := by rfl) (hf : X.fn x = true ∨ X.env.scope.names.lookup x = some .local := by first | exact .inl rfl | exact .inr rfl | assumption) :
    PS X (.Assign [.Name x pos'] e pos) (tAsg te (gName i)) := by
  intro pins s σ H D I h
  refine wpAny_Assign_Name (thn (he pins s σ H _ I h) fun v s1 ⟨y, H1, I1, r1, q1⟩ => ?_) hs
  exact store_ok I1 hN hi hx r1 (fun s2 I2 => ⟨_, H1, I2, q1⟩) hf
end
section
variable {X : Cx} {pos : Pos}
end
structure It where
  go : Nat → Hp → Prop
  yld : Nat → Hp → V → Hp → Prop
  stop : Nat → Hp → Prop
def FpOk (X : Cx) (pins : List (Addr × Obj)) (H : Hp) (b : Addr) : Prop :=
  H b = none ∧ b ≠ X.env.locals ∧ b ∉ X.fs ∧ (b ∈ X.ex ∨ X.s₀.heap.objs.size ≤ b) ∧ (∀ x c, X.env.cells.lookup x = some c → c ≠ b) ∧ ∀ p ∈ X.pn ++ pins, p.1 ≠ b
theorem Inv.fpOk {X : Cx} {pins : List (Addr × Obj)} {σ : St} {H H' : Hp} {s : Shared} {b : Addr} (I : Inv X pins σ H s) (hb : s.heap.objs.size ≤ b) (hn : H' b = none) : FpOk X pins H' b := by
  refine ⟨hn, Nat.ne_of_gt (Nat.lt_of_lt_of_le I.lt hb), I.nofs hb, .inr (Nat.le_trans I.sz hb), fun x c e z => ?_, fun p hp z => ?_⟩
  · obtain ⟨v, q⟩ := I.cell x c e
    exact absurd (Nat.lt_of_lt_of_le q.lt (by rw [z]; exact hb)) (Nat.lt_irrefl _)
  · exact absurd (Nat.lt_of_lt_of_le (Heap.lt_size (I.pin p hp).1) (by rw [z]; exact hb)) (Nat.lt_irrefl _)
structure Turn (P : Program) (w : World) (K : PySem.W.Frag) (tg : Expr) (J : It) (fp : List Addr) (it : Addr) (tn : Nat → Heap → Prop) : Prop where
  mem : it ∈ fp
  obj : ∀ i h, tn i h → ∀ b ∈ fp, ∃ o, h.get? b = some o ∧ ∀ v, o.data ≠ .cell v
  keep : ∀ i h h', tn i h → (∀ b ∈ fp, ∀ o, h.get? b = some o → h'.get? b = some o) → tn i h'
  item : ∀ (X : Cx), X.prog = P → X.w = w → X.K = K → X.calm = true → ∀ (i : Nat) (pins : List (Addr × Obj)) (s : Shared) (σ : St) (H : Hp) (E : Value → Shared → Prop), Inv X pins σ H s → (∀ b ∈ fp, FpOk X pins H b) → tn i s.heap → J.go i H →
    wpAny (model P w) X.A (pyNext (.ref it)) (fun r s1 => ∃ u, r = some u ∧
      wpAny (model P w) X.A (letOwnedTupleGo tg (.ref it) u) (fun _ s2 => ∃ x H', Inv X pins σ H' s2 ∧ RelV x u ∧ J.yld i H x H' ∧ tn (i + 1) s2.heap ∧ ∀ b ∈ fp, H' b = none) E s1) E s
  done : ∀ (X : Cx), X.prog = P → X.w = w → X.K = K → X.calm = true → ∀ (i : Nat) (pins : List (Addr × Obj)) (s : Shared) (σ : St) (H : Hp) (E : Value → Shared → Prop), Inv X pins σ H s → (∀ b ∈ fp, FpOk X pins H b) → tn i s.heap → J.stop i H →
    wpAny (model P w) X.A (pyNext (.ref it)) (fun r s1 => r = none ∧ Inv X pins σ H s1) E s
  self : ∀ (A : Around) (i : Nat) (s : Shared) (Q : Value → Shared → Prop) (E : Value → Shared → Prop), tn i s.heap → Q (.ref it) s → wpAny (model P w) A (pyIter (.ref it)) Q E s
abbrev TI := St → Hp → (It → Hp → Prop) → Prop
def PIE (X : Cx) (pins : List (Addr × Obj)) (σ : St) (tg : Expr) (R : It → Hp → Prop) (itv : Value) (s2 : Shared) : Prop :=
  ∃ (it : Addr) (fp : List Addr) (tn : Nat → Heap → Prop) (J : It) (H' : Hp), itv = .ref it ∧ Inv X pins σ H' s2 ∧ Turn X.prog X.w X.K tg J fp it tn ∧ tn 0 s2.heap ∧ (∀ b ∈ fp, FpOk X pins H' b) ∧ R J H'
def PI (X : Cx) (tg iter : Expr) (wi : TI) : Prop :=
  ∀ (pins : List (Addr × Obj)) (s : Shared) (σ : St) (H : Hp) (R : It → Hp → Prop), Inv X pins σ H s → wi σ H R →
    wpAny (model X.prog X.w) X.A (eval iter X.env) (fun v s1 => wpAny (model X.prog X.w) X.A (pyIter v) (PIE X pins σ tg R) X.xe s1) X.xe s
theorem go_of {M : Model} {A : Around} {E : Value → Shared → Prop} {s : Shared} {tg : Expr} {it : Addr} {u : Value} {o : Obj} {n : String} {vs : Array Value} {Q : Unit → Shared → Prop} (ho : s.heap.get? it = some o) (hc : o.cls = .type n) (hd : o.data = .fields vs)
    (hn : ["enumerate", "zip", "dict_itemiterator", "dict_reverseitemiterator", "odict_iterator", "itertools.zip_longest", "itertools.pairwise"].contains n = false) (hQ : Q () s) : wpAny M A (letOwnedTupleGo tg (.ref it) u) Q E s := by
  unfold letOwnedTupleGo
  cases tg <;> first
    | exact wpAny_pure hQ
    | (cases u <;> first
        | exact wpAny_pure hQ
        | (refine wpAny_bind (wpAny_load ho ?_)
           rw [hc, hd]
           show wpAny M A (if (["enumerate", "zip", "dict_itemiterator", "dict_reverseitemiterator", "odict_iterator", "itertools.zip_longest", "itertools.pairwise"].contains n && vs[0]? == some (rawInt _)) = true then _ else _) Q E s
           rw [if_neg (by intro h; rw [hn, Bool.false_and] at h; cases h)]
           exact wpAny_pure hQ))
def Itl (K : PySem.W.Frag) (a : Addr) : It :=
  ⟨fun i H => ∃ xs x, SqL K H a xs ∧ xs[i]? = some x, fun i H x H' => H' = H ∧ ∀ xs, SqL K H a xs → xs[i]? = some x, fun i H => ∃ xs, SqL K H a xs ∧ xs.length ≤ i⟩
def Itr (lo : Int) (n : Nat) : It := ⟨fun i _ => i < n, fun i H x H' => H' = H ∧ x = .int (lo + i), fun i _ => n ≤ i⟩
theorem turn_list {P : Program} {w : World} {K : PySem.W.Frag} {tg : Expr} (a it : Addr) : Turn P w K tg (Itl K a) [it] it (fun i h => h.IsListIter it a i) where
  mem := by simp
  obj := fun i h st b hb => by
    have e : b = it := by simpa using hb
    subst e
    obtain ⟨o, e, c, d⟩ := st
    exact ⟨o, e, fun v z => by rw [d] at z; cases z⟩
  keep := fun i h h' st k => st.at fun o e => k it (by simp) o e
  item := by
    intro X hP hw hK hc i pins s σ H E I hf st hg
    subst hP hw hK
    obtain ⟨xs, x, hq, hx⟩ := hg
    obtain ⟨its, rv, p, hz⟩ := I.list hq
    obtain ⟨u, hu, ru⟩ := rv.get hx
    obtain ⟨f0, f1, f2, f3, f4, f5⟩ := hf it (by simp)
    refine wpAny_pyNext_list_item st p.isList (x := u) (by simpa using hu) fun h' st' sb => ?_
    have I1 : Inv X pins σ H { s with heap := h' } := I.turned (t' := s.toks) (fun b o hb e => (sb.2 b hb).trans e) f0 f1 f3 f4 f5
    obtain ⟨o, e, c, d⟩ := id st'
    exact ⟨u, rfl, go_of (s := { s with heap := h' }) e c d (by decide) ⟨x, H, I1, ru, ⟨rfl, fun ys hy => by rw [I.list_inj hy hq]; exact hx⟩, st', fun b hb => (hf b hb).1⟩⟩
  done := by
    intro X hP hw hK hc i pins s σ H E I hf st hg
    subst hP hw hK
    obtain ⟨xs, hq, hx⟩ := hg
    obtain ⟨its, rv, p, hz⟩ := I.list hq
    obtain ⟨f0, f1, f2, f3, f4, f5⟩ := hf it (by simp)
    have hl := rv.length
    exact wpAny_pyNext_list_end (I.ok.hd hc) st p.isList (by simp; omega) fun h' eb => ⟨rfl, I.turned (t' := s.toks) (fun b o hb e => eb b o hb e) f0 f1 f3 f4 f5⟩
  self := fun _ _ _ _ _ st h => wpAny_pyIter_listiter st h
theorem turn_range {P : Program} {w : World} {K : PySem.W.Frag} {tg : Expr} (it : Addr) (lo : Int) (n : Nat) : Turn P w K tg (Itr lo n) [it] it (fun i h => IsRangeIter h it (lo + (i : Nat) * 1) ((n : Int) - (i : Nat)) 1) where
  mem := by simp
  obj := fun i h st b hb => by
    have e : b = it := by simpa using hb
    subst e
    exact ⟨_, st, fun v z => by
      have z' : Data.fields _ = Data.cell v := z
      cases z'⟩
  keep := fun i h h' st k => k it (by simp) _ st
  item := by
    intro X hP hw hK hc i pins s σ H E I hf st hg
    subst hP hw hK
    obtain ⟨f0, f1, f2, f3, f4, f5⟩ := hf it (by simp)
    have W := Walks.range (prog := X.prog) (w := X.w) (I.ok.hd hc) it lo 1 n
    refine W.item i s _ _ hg st fun v h' tk hv st' kk => ?_
    obtain ⟨t, rfl⟩ := hv
    have I1 : Inv X pins σ H { s with heap := h', toks := tk } := I.turned (fun b o hb e => kk b o (by simpa using hb) e) f0 f1 f3 f4 f5
    refine ⟨_, rfl, go_of (s := { s with heap := h', toks := tk }) (n := "range_iterator") st' rfl rfl (by decide) ⟨.int (lo + i), H, I1, ⟨t, ?_⟩, ⟨rfl, rfl⟩, st', fun b hb => (hf b hb).1⟩⟩
    rw [Int.mul_one]
  done := by
    intro X hP hw hK hc i pins s σ H E I hf st hg
    subst hP hw hK
    obtain ⟨f0, f1, f2, f3, f4, f5⟩ := hf it (by simp)
    exact wpAny_pyNext_range_end (I.ok.hd hc) st (by have : n ≤ i := hg; omega) fun h' eb => ⟨rfl, I.turned (t' := s.toks) (fun b o hb e => eb b o hb e) f0 f1 f3 f4 f5⟩
  self := fun _ _ _ _ _ st h => wpAny_pyIter_rangeiter st h
end L2
namespace L2
open PySem PySem.Spec PyProof.Rows
section
variable {X : Cx} {tg : Expr}
def iList (K : PySem.W.Frag) (tl : TE) : TI := fun σ H R => tl σ H fun x H1 => ∃ a, x = .ref a ∧ (∃ xs, SqL K H1 a xs) ∧ R (Itl K a) H1
theorem pi_list {l : Expr} {tl : TE} (hl : PE X l tl) : PI X tg l (iList X.K tl) := by
  intro pins s σ H R I h
  refine thn (hl pins s σ H _ I h) fun v s1 ⟨x, H1, I1, r1, q1⟩ => ?_
  obtain ⟨a, e, ⟨xs, hq⟩, q⟩ := q1
  subst e
  cases r1
  obtain ⟨its, rv, p, hz⟩ := I1.list hq
  refine wpAny_pyIter_list p.isList ?_
  refine ⟨s1.heap.objs.size, [s1.heap.objs.size], _, _, H1, rfl, I1.kept (t' := s1.toks) fun b o e => Heap.get?_push_of_some _ e, turn_list a _, ⟨_, Heap.get?_push_size _ rfl, rfl, rfl⟩, fun b hb => ?_, q⟩
  have e : b = s1.heap.objs.size := by simpa using hb
  subst e
  exact I1.fpOk (Nat.le_refl _) (I1.hok.fresh (Nat.le_refl _))
theorem range_it {pins : List (Addr × Obj)} {σ : St} {H : Hp} {s : Shared} {R : It → Hp → Prop} {E : Value → Shared → Prop} {lo hi : Int} {t u v : Tok} {tk : Nat} (I : Inv X pins σ H s) (h1 : -(2 ^ 62) ≤ lo) (h2 : lo < 2 ^ 62) (h3 : -(2 ^ 62) ≤ hi) (h4 : hi < 2 ^ 62)
    (q : R (Itr lo (hi - lo).toNat) H) : wpAny (model X.prog X.w) X.A (pyIter (.ref s.heap.objs.size)) (PIE X pins σ tg R) E { s with heap := s.heap.push { cls := .type "range", data := .fields #[.int lo t, .int hi u, .int 1 v] }, toks := tk } := by
  refine wpAny_pyIter_range (IsRange.new ..) (small_one h1 h2 h3 h4) ?_
  have I1 : Inv X pins σ H { s with heap := s.heap.push { cls := .type "range", data := .fields #[.int lo t, .int hi u, .int 1 v] }, toks := tk } := I.kept fun b o e => Heap.get?_push_of_some _ e
  refine ⟨(s.heap.push { cls := .type "range", data := .fields #[.int lo t, .int hi u, .int 1 v] }).objs.size, [(s.heap.push { cls := .type "range", data := .fields #[.int lo t, .int hi u, .int 1 v] }).objs.size], _, _, H, rfl,
    I1.kept (t' := tk) fun b o e => Heap.get?_push_of_some _ e, turn_range _ lo (hi - lo).toNat, ?_, fun b hb => ?_, q⟩
  · have e1 : lo + ((0 : Nat) : Int) * 1 = lo := by simp
    have e2 : (((hi - lo).toNat : Nat) : Int) - ((0 : Nat) : Int) = Builtin.Range.rangeSize lo hi 1 := by rw [rangeSize_one]; split <;> omega
    show IsRangeIter _ _ (lo + ((0 : Nat) : Int) * 1) ((((hi - lo).toNat : Nat) : Int) - ((0 : Nat) : Int)) 1
    rw [e1, e2]
    exact Heap.get?_push_size _ rfl
  · have e : b = (s.heap.push { cls := .type "range", data := .fields #[.int lo t, .int hi u, .int 1 v] }).objs.size := by simpa using hb
    subst e
    exact I1.fpOk (Nat.le_refl _) (I1.hok.fresh (Nat.le_refl _))
def iRng1 (ta : TA) : TI := fun σ H R => ta σ H fun vs H1 => ∃ j : Int, vs = [.int j] ∧ -(2 ^ 62) ≤ j ∧ j < 2 ^ 62 ∧ R (Itr 0 j.toNat) H1
def iRng2 (ta : TA) : TI := fun σ H R => ta σ H fun vs H1 => ∃ i j : Int, vs = [.int i, .int j] ∧ (-(2 ^ 62) ≤ i ∧ i < 2 ^ 62 ∧ -(2 ^ 62) ≤ j ∧ j < 2 ^ 62) ∧ R (Itr i (j - i).toNat) H1
theorem pi_range1 {a : Expr} {ta : TA} {p pos : Pos} (hg : Gl X "range") (hm : X.mg "range" = none) (ha : PA X [a] ta) (hs : starEach [a] X.env = [(false, eval a X.env)] := by rfl) : PI X tg (.Call (.Name "range" p) [a] [] pos) (iRng1 ta) := by
  intro pins s σ H R I h
  refine Call_ (ld_blt I hg hm boot_range (PyProof.Rows.callWith_type1 (thn (ha pos pins s σ H _ I h) fun us s1 ⟨vs, H1, I1, r1, q1⟩ => ?_) hs rfl))
  obtain ⟨j, e, q1, q2, q⟩ := q1
  subst e
  cases r1 with
  | cons r rr =>
    cases rr
    obtain ⟨t, rfl⟩ := r
    exact call_range_1 (range_it I1 (by omega) (by omega) q1 q2 (by simpa using q))
theorem pi_range2 {a b : Expr} {ta : TA} {p pos : Pos} (hg : Gl X "range") (hm : X.mg "range" = none) (ha : PA X [a, b] ta) (hs : starEach [a, b] X.env = [(false, eval a X.env), (false, eval b X.env)] := by rfl) (hs2 : starEach [b] X.env = [(false, eval b X.env)] := by rfl) :
    PI X tg (.Call (.Name "range" p) [a, b] [] pos) (iRng2 ta) := by
  intro pins s σ H R I h
  refine Call_ (ld_blt I hg hm boot_range (PyProof.Rows.callWith_type1 (thn (ha pos pins s σ H _ I h) fun us s1 ⟨vs, H1, I1, r1, q1⟩ => ?_) (by rw [hs, hs2]) (by rw [hs2]; rfl)))
  obtain ⟨i, j, e, ⟨q1, q2, q3, q4⟩, q⟩ := q1
  subst e
  cases r1 with
  | cons r rr =>
    cases rr with
    | cons r' rr =>
      cases rr
      obtain ⟨t, rfl⟩ := r
      obtain ⟨t', rfl⟩ := r'
      exact call_range_2 (range_it I1 q1 q2 q3 q4 q)
def tFor (wi : TI) (g : TG) (tb : TS) : TS := fun D σ H => wi σ H fun J H1 => ∃ W : Nat → Nat → St → Hp → Prop, (∃ m, W 0 m σ H1) ∧ ∀ i m σ H, W i m σ H →
  (J.stop i H ∧ D.nx σ H) ∨ (J.go i H ∧ ∃ N : St → Hp → Prop, (∀ σ' H', N σ' H' → ∃ m', m' < m ∧ W (i + 1) m' σ' H') ∧ ∀ x H', J.yld i H x H' → g x σ H' fun σ2 H2 => tb { D with nx := N, ct := N, bk := D.nx } σ2 H2)
def pinsAt (fp : List Addr) (h : Heap) : List (Addr × Obj) := fp.filterMap fun b => (h.get? b).map fun o => (b, o)
theorem mem_pinsAt {fp : List Addr} {h : Heap} {b : Addr} {o : Obj} (hb : b ∈ fp) (e : h.get? b = some o) : (b, o) ∈ pinsAt fp h := List.mem_filterMap.mpr ⟨b, hb, by rw [e]; rfl⟩
theorem of_pinsAt {fp : List Addr} {h : Heap} {p : Addr × Obj} (hp : p ∈ pinsAt fp h) : p.1 ∈ fp ∧ h.get? p.1 = some p.2 := by
  obtain ⟨b, hb, e⟩ := List.mem_filterMap.mp hp
  cases q : h.get? b with
  | none => rw [q] at e; cases e
  | some o =>
    rw [q] at e
    have e' : (b, o) = p := Option.some.inj e
    subst e'
    exact ⟨hb, q⟩
theorem Inv.pinned {pins : List (Addr × Obj)} {σ : St} {H : Hp} {s : Shared} {fp : List Addr} (I : Inv X pins σ H s) (hf : ∀ b ∈ fp, FpOk X pins H b) (ho : ∀ b ∈ fp, ∃ o, s.heap.get? b = some o ∧ ∀ v, o.data ≠ .cell v) : Inv X (pins ++ pinsAt fp s.heap) σ H s :=
  I.pins_of fun p hp => (List.mem_append.mp hp).elim (fun z => I.pin p (List.mem_append_right _ z)) fun z => by
    obtain ⟨hb, e⟩ := of_pinsAt z
    obtain ⟨f0, f1, f2, _⟩ := hf p.1 hb
    obtain ⟨o, e', d⟩ := ho p.1 hb
    rw [e] at e'; cases e'
    exact ⟨e, f0, f1, f2, d⟩
theorem Inv.unpinned {pins pl : List (Addr × Obj)} {σ : St} {H : Hp} {s : Shared} (I : Inv X (pins ++ pl) σ H s) : Inv X pins σ H s := I.pins_of fun p hp => I.pin p (List.mem_append_right _ (List.mem_append_left _ hp))
theorem ps_for {iter : Expr} {body : List Stmt} {wi : TI} {g : TG} {tb : TS} {pos : Pos} (hp : PassesOwn (model X.prog X.w) X.A X.env X.xe) (hc : X.calm = true) (hi : PI X tg iter wi) (hg : PG X tg g) (hb : PSs X body tb)
    (hs : ∀ x, foldedSetIterable iter X.env x = pure x := by intro _; rfl) : PS X (.For tg iter body [] pos) (tFor wi g tb) := by
  intro pins s σ H D I h
  refine wpAny_For (thn (hi pins s σ H _ I h) fun v s1 h1 => thn h1 fun itv s2 h2 => ?_) hs
  obtain ⟨it, fp, tn, J, H2, e, I2, T, st2, f2, W, ⟨m0, w0⟩, turn⟩ := h2
  subst e
  have stat : ∀ {H' : Hp}, (∀ b ∈ fp, H' b = none) → ∀ b ∈ fp, FpOk X pins H' b := fun hn b hb => ⟨hn b hb, (f2 b hb).2⟩
  refine codeAny_forLoop_any (fun n s' => ∃ i σ' H', Inv X pins σ' H' s' ∧ tn i s'.heap ∧ (∀ b ∈ fp, H' b = none) ∧ W i n σ' H') ?_ m0 ⟨0, σ, H2, I2, st2, fun b hb => (f2 b hb).1, w0⟩
  rintro n s3 ⟨i, σ3, H3, I3, st3, fr3, w3⟩
  rcases turn i n σ3 H3 w3 with ⟨stop, qn⟩ | ⟨go, N, hN, step⟩
  · refine wpAny_passesOwn hp (thn (T.done X rfl rfl rfl hc i pins s3 σ3 H3 X.xe I3 (stat fr3) st3 stop) fun r s4 ⟨hr, I4⟩ => ?_)
    subst hr
    exact wpAny_execs_nil ⟨σ3, H3, I4, qn⟩
  · refine wpAny_passesOwn hp (thn (T.item X rfl rfl rfl hc i pins s3 σ3 H3 X.xe I3 (stat fr3) st3 go) fun r s4 ⟨u, hr, h4⟩ => ?_)
    subst hr
    refine wpAny_passesOwn hp (thn h4 fun _ s5 ⟨x, H5, I5, r5, y5, st5, fr5⟩ => ?_)
    have I5' := I5.pinned (stat fr5) (T.obj _ _ st5)
    refine wpAny_passesOwn hp (thn (hg _ s5 σ3 H5 x u _ I5' r5 (step x H5 y5)) fun _ s6 ⟨σ6, H6, I6, q6⟩ => ?_)
    refine wpAny_passesOwn hp (thn (hb _ s6 σ6 H6 _ I6 q6) fun f s7 q7 => ?_)
    have again : ∀ {σ7 : St} {H7 : Hp}, Inv X (pins ++ pinsAt fp s5.heap) σ7 H7 s7 → N σ7 H7 → ∃ m, m < n ∧ ∃ i σ' H', Inv X pins σ' H' s7 ∧ tn i s7.heap ∧ (∀ b ∈ fp, H' b = none) ∧ W i m σ' H' := fun {σ7 H7} I7 n7 => by
      obtain ⟨m', hm, w7⟩ := hN σ7 H7 n7
      refine ⟨m', hm, i + 1, σ7, H7, I7.unpinned, T.keep _ _ _ st5 fun b hb o e => (I7.pin (b, o) (List.mem_append_right _ (List.mem_append_right _ (mem_pinsAt hb e)))).1, fun b hb => ?_, w7⟩
      obtain ⟨o, e, d⟩ := T.obj _ _ st5 b hb
      exact (I7.pin (b, o) (List.mem_append_right _ (List.mem_append_right _ (mem_pinsAt hb e)))).2.1
    cases f with
    | next => obtain ⟨σ7, H7, I7, n7⟩ := q7; exact again I7 n7
    | cont => obtain ⟨σ7, H7, I7, n7⟩ := q7; exact again I7 n7
    | brk => obtain ⟨σ7, H7, I7, q7⟩ := q7; exact ⟨σ7, H7, I7.unpinned, q7⟩
    | ret v => obtain ⟨x7, σ7, H7, I7, r7, q7⟩ := q7; exact ⟨x7, σ7, H7, I7.unpinned, r7, q7⟩
end
theorem for_list {K : PySem.W.Frag} {a : Addr} {xs : List V} {g : TG} {tb : TS} {D : Ends} {σ : St} {H : Hp} (Pv : Nat → St → Hp → Prop) (h0 : Pv 0 σ H) (hl : ∀ i σ H, i ≤ xs.length → Pv i σ H → SqL K H a xs)
    (hs : ∀ i x σ H, xs[i]? = some x → Pv i σ H → g x σ H fun σ2 H2 => tb { D with nx := Pv (i + 1), ct := Pv (i + 1), bk := D.nx } σ2 H2) (hd : ∀ σ H, Pv xs.length σ H → D.nx σ H) :
    ∃ W : Nat → Nat → St → Hp → Prop, (∃ m, W 0 m σ H) ∧ ∀ i m σ H, W i m σ H →
      ((Itl K a).stop i H ∧ D.nx σ H) ∨ ((Itl K a).go i H ∧ ∃ N : St → Hp → Prop, (∀ σ' H', N σ' H' → ∃ m', m' < m ∧ W (i + 1) m' σ' H') ∧ ∀ x H', (Itl K a).yld i H x H' → g x σ H' fun σ2 H2 => tb { D with nx := N, ct := N, bk := D.nx } σ2 H2) := by
  refine ⟨fun i m σ H => m = xs.length - i ∧ i ≤ xs.length ∧ Pv i σ H, ⟨xs.length, by simp, Nat.zero_le _, h0⟩, ?_⟩
  rintro i m σ H ⟨rfl, hi, p⟩
  have q := hl i σ H hi p
  by_cases hlt : i < xs.length
  · refine .inr ⟨⟨xs, xs[i], q, by simp [hlt]⟩, Pv (i + 1), fun σ' H' p' => ⟨xs.length - (i + 1), by omega, rfl, hlt, p'⟩, fun x H' y => ?_⟩
    obtain ⟨e, y⟩ := y
    subst e
    exact hs i x σ _ (y xs q) p
  · have e : i = xs.length := by omega
    subst e
    exact .inl ⟨⟨xs, q, Nat.le_refl _⟩, hd σ H p⟩
theorem for_range {lo : Int} {n : Nat} {g : TG} {tb : TS} {D : Ends} {σ : St} {H : Hp} (Pv : Nat → St → Hp → Prop) (h0 : Pv 0 σ H)
    (hs : ∀ i σ H, i < n → Pv i σ H → g (.int (lo + i)) σ H fun σ2 H2 => tb { D with nx := Pv (i + 1), ct := Pv (i + 1), bk := D.nx } σ2 H2) (hd : ∀ σ H, Pv n σ H → D.nx σ H) :
    ∃ W : Nat → Nat → St → Hp → Prop, (∃ m, W 0 m σ H) ∧ ∀ i m σ H, W i m σ H →
      ((Itr lo n).stop i H ∧ D.nx σ H) ∨ ((Itr lo n).go i H ∧ ∃ N : St → Hp → Prop, (∀ σ' H', N σ' H' → ∃ m', m' < m ∧ W (i + 1) m' σ' H') ∧ ∀ x H', (Itr lo n).yld i H x H' → g x σ H' fun σ2 H2 => tb { D with nx := N, ct := N, bk := D.nx } σ2 H2) := by
  refine ⟨fun i m σ H => m = n - i ∧ i ≤ n ∧ Pv i σ H, ⟨n, by simp, Nat.zero_le _, h0⟩, ?_⟩
  rintro i m σ H ⟨rfl, hi, p⟩
  by_cases hlt : i < n
  · refine .inr ⟨hlt, Pv (i + 1), fun σ' H' p' => ⟨n - (i + 1), by omega, rfl, hlt, p'⟩, fun x H' y => ?_⟩
    obtain ⟨e, y⟩ := y
    subst e y
    exact hs i σ _ hlt p
  · have e : i = n := by omega
    subst e
    exact .inl ⟨Nat.le_refl _, hd σ H p⟩
end L2
namespace L2
open PySem PySem.Spec PyProof.Rows
abbrev R2 := V → V → Hp → VK → Prop
def OpR (X : Cx) (f : Value → Value → Sem Value) (r : R2) : Prop :=
  ∀ (pins : List (Addr × Obj)) (s : Shared) (σ : St) (H : Hp) (x y : V) (v u : Value) (Q : VK), Inv X pins σ H s → RelV x v → RelV y u → r x y H Q →
    wpAny (model X.prog X.w) X.A (f v u) (EP X pins σ Q) X.xe s
def UnR (X : Cx) (f : Value → Sem Value) (r : V → Hp → VK → Prop) : Prop :=
  ∀ (pins : List (Addr × Obj)) (s : Shared) (σ : St) (H : Hp) (x : V) (v : Value) (Q : VK), Inv X pins σ H s → RelV x v → r x H Q →
    wpAny (model X.prog X.w) X.A (f v) (EP X pins σ Q) X.xe s
def CallR (X : Cx) (f : Value) (r : List V → Hp → VK → Prop) : Prop :=
  ∀ (pins : List (Addr × Obj)) (s : Shared) (σ : St) (H : Hp) (xs : List V) (us : List Value) (Q : VK), Inv X pins σ H s → Vals xs us → r xs H Q →
    wpAny (model X.prog X.w) X.A (call f us) (EP X pins σ Q) X.xe s
def TruR (X : Cx) (r : V → Hp → (Bool → Hp → Prop) → Prop) : Prop :=
  ∀ (pins : List (Addr × Obj)) (s : Shared) (σ : St) (H : Hp) (x : V) (v : Value) (Q : Bool → Hp → Prop), Inv X pins σ H s → RelV x v → r x H Q →
    wpAny (model X.prog X.w) X.A (truthy v) (TP X pins σ Q) X.xe s
def tOp (r : R2) (ta tb : TE) : TE := fun σ H Q => ta σ H fun x H1 => tb σ H1 fun y H2 => r x y H2 Q
def tUn (r : V → Hp → VK → Prop) (ta : TE) : TE := fun σ H Q => ta σ H fun x H1 => r x H1 Q
def rI (C : Int → Int → Prop) (g : Int → Int → V) : R2 := fun x y H Q => ∃ i j, x = .int i ∧ y = .int j ∧ C i j ∧ Q (g i j) H
def rI0 (g : Int → Int → V) : R2 := fun x y H Q => ∃ i j, x = .int i ∧ y = .int j ∧ Q (g i j) H
def rU (g : Int → V) : V → Hp → VK → Prop := fun x H Q => ∃ i, x = .int i ∧ Q (g i) H
section
variable {X : Cx} {a b c : Expr} {ta tb tc : TE} {pos : Pos}
theorem binT (ha : PE X a ta) (hb : PE X b tb) {pins : List (Addr × Obj)} {s : Shared} {σ : St} {H : Hp} {R : V → V → Hp → Prop} (I : Inv X pins σ H s)
    (h : ta σ H fun x H1 => tb σ H1 fun y H2 => R x y H2) {Q : Value → Shared → Prop} {f : Value → Value → Sem Value}
    (hf : ∀ v u s2 x y H2, Inv X pins σ H2 s2 → RelV x v → RelV y u → R x y H2 → wpAny (model X.prog X.w) X.A (f v u) Q X.xe s2) :
    wpAny (model X.prog X.w) X.A (eval a X.env) (fun v s₁ => wpAny (model X.prog X.w) X.A (eval b X.env) (fun u s₂ => wpAny (model X.prog X.w) X.A (f v u) Q X.xe s₂) X.xe s₁) X.xe s := by
  refine thn (ha pins s σ H _ I h) fun v s1 ⟨x, H1, I1, r1, q1⟩ => ?_
  refine thn (hb pins s1 σ H1 _ I1 q1) fun u s2 ⟨y, H2, I2, r2, q2⟩ => ?_
  exact hf v u s2 x y H2 I2 r1 r2 q2
theorem pe_op {op : Operator} {r : R2} (ho : OpR X (binaryOp op) r) (ha : PE X a ta) (hb : PE X b tb) : PE X (.BinOp a op b pos) (tOp r ta tb) := by
  intro pins s σ H Q I h
  exact wpAny_BinOp (binT ha hb I h fun v u s2 x y H2 I2 rx ry q => ho pins s2 σ H2 x y v u Q I2 rx ry q)
theorem pe_un {op : UnaryOp} {r : V → Hp → VK → Prop} (ho : UnR X (unaryOp op) r) (ha : PE X a ta) : PE X (.UnaryOp op a pos) (tUn r ta) := by
  intro pins s σ H Q I h
  exact UnaryOp_ (thn (ha pins s σ H _ I h) fun v s1 ⟨x, H1, I1, r1, q1⟩ => ho pins s1 σ H1 x v Q I1 r1 q1)
theorem opI {f : Value → Value → Sem Value} {C : Int → Int → Prop} {g : Int → Int → Int}
    (rule : ∀ (i j : Int) (t u : Tok) (s : Shared) (Q : Value → Shared → Prop) (E : Value → Shared → Prop), C i j → Q (.int (g i j) s.toks) { s with toks := s.toks + 1 } → wpAny (model X.prog X.w) X.A (f (.int i t) (.int j u)) Q E s) :
    OpR X f (rI C fun i j => .int (g i j)) := by
  intro pins s σ H x y v u Q I rx ry h
  obtain ⟨i, j, rfl, rfl, hc, q⟩ := h
  obtain ⟨t, rfl⟩ := rx
  obtain ⟨t', rfl⟩ := ry
  exact rule i j t t' s _ _ hc ⟨.int (g i j), H, I.tok _, ⟨_, rfl⟩, q⟩
theorem opI0 {f : Value → Value → Sem Value} {g : Int → Int → Int}
    (rule : ∀ (i j : Int) (t u : Tok) (s : Shared) (Q : Value → Shared → Prop) (E : Value → Shared → Prop), Q (.int (g i j) s.toks) { s with toks := s.toks + 1 } → wpAny (model X.prog X.w) X.A (f (.int i t) (.int j u)) Q E s) :
    OpR X f (rI0 fun i j => .int (g i j)) := by
  intro pins s σ H x y v u Q I rx ry h
  obtain ⟨i, j, rfl, rfl, q⟩ := h
  obtain ⟨t, rfl⟩ := rx
  obtain ⟨t', rfl⟩ := ry
  exact rule i j t t' s _ _ ⟨.int (g i j), H, I.tok _, ⟨_, rfl⟩, q⟩
theorem opB0 {f : Value → Value → Sem Value} {g : Int → Int → Bool}
    (rule : ∀ (i j : Int) (t u : Tok) (s : Shared) (Q : Value → Shared → Prop) (E : Value → Shared → Prop), Q (.bool (g i j)) s → wpAny (model X.prog X.w) X.A (f (.int i t) (.int j u)) Q E s) :
    OpR X f (rI0 fun i j => .bl (g i j)) := by
  intro pins s σ H x y v u Q I rx ry h
  obtain ⟨i, j, rfl, rfl, q⟩ := h
  obtain ⟨t, rfl⟩ := rx
  obtain ⟨t', rfl⟩ := ry
  exact rule i j t t' s _ _ ⟨.bl (g i j), H, I, rfl, q⟩
def CDiv (i j : Int) : Prop := 0 < j ∧ j < 1073741824
def CPow (i j : Int) : Prop := 0 ≤ j ∧ j ≤ 1000000 ∧ i.natAbs < 2 ^ 64
def CMul (i j : Int) : Prop := (-(2 ^ 64) < i ∧ i < 2 ^ 64) ∨ (-(2 ^ 64) < j ∧ j < 2 ^ 64)
theorem CMul.ok {i j : Int} (h : CMul i j) : IntMulOk i j := by
  rcases h with ⟨h1, h2⟩ | ⟨h1, h2⟩
  · exact .of_left (intBits_le_64 h1 h2)
  · exact .of_right (intBits_le_64 h1 h2)
theorem two_pow_nn (k : Nat) : (0 : Int) ≤ 2 ^ k := by
  rw [two_pow_cast]
  exact Int.natCast_nonneg _
theorem op_add : OpR X (binaryOp .Add) (rI0 fun i j => .int (i + j)) := opI0 fun _ _ _ _ _ _ _ q => add_int q
theorem op_sub : OpR X (binaryOp .Sub) (rI0 fun i j => .int (i - j)) := opI0 fun _ _ _ _ _ _ _ q => sub_int q
theorem op_mul : OpR X (binaryOp .Mult) (rI CMul fun i j => .int (i * j)) := opI fun _ _ _ _ _ _ _ hc q => mul_int q hc.ok
theorem op_fdiv : OpR X (binaryOp .FloorDiv) (rI CDiv fun i j => .int (i / j)) := opI fun i j _ _ _ _ _ hc q => by
  have h1 : (0 : Int) < j := hc.1
  have h2 : j < 1073741824 := hc.2
  exact floordiv_int (by omega) (by rw [Int.fdiv_eq_ediv_of_nonneg i (by omega)]; exact q) (.inl (PyProof.noPylong_small (by omega)))
theorem op_mod : OpR X (binaryOp .Mod) (rI (fun _ j => 0 < j) fun i j => .int (i % j)) := opI fun i j _ _ _ _ _ hc q => by
  have h1 : (0 : Int) < j := hc
  exact mod_int' (by omega) (by rw [Int.fmod_eq_emod_of_nonneg i (by omega)]; exact q)
theorem op_pow : OpR X (binaryOp .Pow) (rI CPow fun i j => .int (i ^ j.toNat)) := opI fun _ _ _ _ _ _ _ hc q => pow_int_small hc.1 hc.2.1 hc.2.2 q
theorem op_shr : OpR X (binaryOp .RShift) (rI (fun _ j => 0 ≤ j) fun i j => .int (i / 2 ^ j.toNat)) := opI fun i j _ _ _ _ _ hc q =>
  rshift_int hc (by rw [Int.fdiv_eq_ediv_of_nonneg i (two_pow_nn _)]; exact q)
theorem unI {f : Value → Sem Value} {g : Int → Int}
    (rule : ∀ (i : Int) (t : Tok) (s : Shared) (Q : Value → Shared → Prop) (E : Value → Shared → Prop), Q (.int (g i) s.toks) { s with toks := s.toks + 1 } → wpAny (model X.prog X.w) X.A (f (.int i t)) Q E s) :
    UnR X f (rU fun i => .int (g i)) := by
  intro pins s σ H x v Q I rx h
  obtain ⟨i, rfl, q⟩ := h
  obtain ⟨t, rfl⟩ := rx
  exact rule i t s _ _ ⟨.int (g i), H, I.tok _, ⟨_, rfl⟩, q⟩
theorem un_neg : UnR X (unaryOp .USub) (rU fun i => .int (-i)) := unI fun _ _ _ _ _ q => neg_int q
end
def scal : V → V → Bool
  | .non, .non => true | .non, .int _ => true | .int _, .non => true | .non, .bl _ => true | .bl _, .non => true | .non, .str _ => true | .str _, .non => true
  | .int _, .int _ => true | .bl _, .bl _ => true | .str _, .str _ => true | .byt _, .byt _ => true
  | .int _, .str _ => true | .str _, .int _ => true | .bl _, .str _ => true | .str _, .bl _ => true
  | _, _ => false
def rEq : R2 := fun x y H Q => scal x y = true ∧ Q (.bl (decide (x = y))) H
def rNe : R2 := fun x y H Q => scal x y = true ∧ Q (.bl (!decide (x = y))) H
theorem dec_int {i j : Int} : decide (V.int i = V.int j) = (i == j) := by
  rw [Bool.eq_iff_iff]
  simp
theorem dec_bl {i j : Bool} : decide (V.bl i = V.bl j) = (i == j) := by
  rw [Bool.eq_iff_iff]
  simp
theorem dec_str {i j : Str} : decide (V.str i = V.str j) = (i == j) := by
  rw [Bool.eq_iff_iff]
  simp
theorem dec_byt {i j : Array UInt8} : decide (V.byt i = V.byt j) = (i.toList == j.toList) := by
  rw [Bool.eq_iff_iff]
  cases i
  cases j
  simp
section
variable {X : Cx} {a b c : Expr} {ta tb tc : TE} {pos : Pos}
theorem fin_bl {pins : List (Addr × Obj)} {σ : St} {H : Hp} {s : Shared} {Q : VK} {k k' : Bool} (I : Inv X pins σ H s) (q : Q (.bl k) H) (e : k = k') : EP X pins σ Q (.bool k') s := by
  subst e
  exact ⟨.bl k, H, I, rfl, q⟩
theorem op_eq : OpR X (compareOp .Eq) rEq := by
  intro pins s σ H x y v u Q I rx ry h
  obtain ⟨hs, q⟩ := h
  cases x with
  | non =>
    cases rx
    cases y with
    | non => cases ry; exact PySem.EqNone.eq_none_none (fin_bl I q (by simp))
    | bl j => cases ry; exact PySem.EqNone.eq_none_bool (fin_bl I q (by simp))
    | int j => obtain ⟨t', rfl⟩ := ry; exact PySem.EqNone.eq_none_int (fin_bl I q (by simp))
    | str j => obtain ⟨t', rfl⟩ := ry; exact PySem.EqNone.eq_none_str (fin_bl I q (by simp))
    | _ => exact absurd (show false = true from hs) Bool.false_ne_true
  | bl i =>
    cases rx
    cases y with
    | non => cases ry; exact PySem.EqNone.eq_bool_none (fin_bl I q (by simp))
    | bl j => cases ry; exact eq_bool (fin_bl I q dec_bl)
    | str j => obtain ⟨t', rfl⟩ := ry; exact PySem.EqMixed.eq_bool_str (fin_bl I q (by simp))
    | _ => exact absurd (show false = true from hs) Bool.false_ne_true
  | int i =>
    obtain ⟨t, rfl⟩ := rx
    cases y with
    | non => cases ry; exact PySem.EqNone.eq_int_none (fin_bl I q (by simp))
    | int j => obtain ⟨t', rfl⟩ := ry; exact eq_int (fin_bl I q dec_int)
    | str j => obtain ⟨t', rfl⟩ := ry; exact PySem.EqMixed.eq_int_str (fin_bl I q (by simp))
    | _ => exact absurd (show false = true from hs) Bool.false_ne_true
  | str i =>
    obtain ⟨t, rfl⟩ := rx
    cases y with
    | non => cases ry; exact PySem.EqNone.eq_str_none (fin_bl I q (by simp))
    | bl j => cases ry; exact PySem.EqMixed.eq_str_bool (fin_bl I q (by simp))
    | int j => obtain ⟨t', rfl⟩ := ry; exact PySem.EqMixed.eq_str_int (fin_bl I q (by simp))
    | str j => obtain ⟨t', rfl⟩ := ry; exact eq_str (fin_bl I q dec_str)
    | _ => exact absurd (show false = true from hs) Bool.false_ne_true
  | byt i =>
    obtain ⟨t, rfl⟩ := rx
    cases y with
    | byt j => obtain ⟨t', rfl⟩ := ry; exact PySem.W.eq_bytes (fin_bl I q dec_byt)
    | _ => exact absurd (show false = true from hs) Bool.false_ne_true
  | _ => cases y <;> exact absurd (show false = true from hs) Bool.false_ne_true
theorem op_ne : OpR X (compareOp .NotEq) rNe := by
  intro pins s σ H x y v u Q I rx ry h
  obtain ⟨hs, q⟩ := h
  cases x with
  | non =>
    cases rx
    cases y with
    | non => cases ry; exact PySem.EqNone.ne_none_none (fin_bl I q (by simp))
    | bl j => cases ry; exact PySem.EqNone.ne_none_bool (fin_bl I q (by simp))
    | int j => obtain ⟨t', rfl⟩ := ry; exact PySem.EqNone.ne_none_int (fin_bl I q (by simp))
    | str j => obtain ⟨t', rfl⟩ := ry; exact PySem.EqNone.ne_none_str (fin_bl I q (by simp))
    | _ => exact absurd (show false = true from hs) Bool.false_ne_true
  | bl i =>
    cases rx
    cases y with
    | non => cases ry; exact PySem.EqNone.ne_bool_none (fin_bl I q (by simp))
    | bl j => cases ry; exact ne_bool (fin_bl I q (congrArg not dec_bl))
    | str j => obtain ⟨t', rfl⟩ := ry; exact PySem.EqMixed.ne_bool_str (fin_bl I q (by simp))
    | _ => exact absurd (show false = true from hs) Bool.false_ne_true
  | int i =>
    obtain ⟨t, rfl⟩ := rx
    cases y with
    | non => cases ry; exact PySem.EqNone.ne_int_none (fin_bl I q (by simp))
    | int j => obtain ⟨t', rfl⟩ := ry; exact ne_int (fin_bl I q (congrArg not dec_int))
    | str j => obtain ⟨t', rfl⟩ := ry; exact PySem.EqMixed.ne_int_str (fin_bl I q (by simp))
    | _ => exact absurd (show false = true from hs) Bool.false_ne_true
  | str i =>
    obtain ⟨t, rfl⟩ := rx
    cases y with
    | non => cases ry; exact PySem.EqNone.ne_str_none (fin_bl I q (by simp))
    | bl j => cases ry; exact PySem.EqMixed.ne_str_bool (fin_bl I q (by simp))
    | int j => obtain ⟨t', rfl⟩ := ry; exact PySem.EqMixed.ne_str_int (fin_bl I q (by simp))
    | str j => obtain ⟨t', rfl⟩ := ry; exact ne_str (fin_bl I q (congrArg not dec_str))
    | _ => exact absurd (show false = true from hs) Bool.false_ne_true
  | byt i =>
    obtain ⟨t, rfl⟩ := rx
    cases y with
    | byt j => obtain ⟨t', rfl⟩ := ry; exact PySem.W.ne_bytes (fin_bl I q (congrArg not dec_byt))
    | _ => exact absurd (show false = true from hs) Bool.false_ne_true
  | _ => cases y <;> exact absurd (show false = true from hs) Bool.false_ne_true
theorem op_lt : OpR X (compareOp .Lt) (rI0 fun i j => .bl (decide (i < j))) := opB0 fun _ _ _ _ _ _ _ q => lt_int q
theorem op_le : OpR X (compareOp .LtE) (rI0 fun i j => .bl (decide (i ≤ j))) := opB0 fun _ _ _ _ _ _ _ q => le_int q
theorem op_gt : OpR X (compareOp .Gt) (rI0 fun i j => .bl (decide (j < i))) := opB0 fun _ _ _ _ _ _ _ q => gt_int q
theorem op_ge : OpR X (compareOp .GtE) (rI0 fun i j => .bl (decide (j ≤ i))) := opB0 fun _ _ _ _ _ _ _ q => ge_int q
theorem op_in_str : OpR X (compareOp .In) (fun x y H Q => ∃ i j, x = .str i ∧ y = .str j ∧ Q (.bl (!(Builtin.Str.occurrences j i 0 j.length 1).isEmpty)) H) := by
  intro pins s σ H x y v u Q I rx ry h
  obtain ⟨i, j, rfl, rfl, q⟩ := h
  obtain ⟨t, rfl⟩ := rx
  obtain ⟨t', rfl⟩ := ry
  exact in_str (fin_bl I q rfl)
theorem nomark (b : Expr) {op : CmpOp} (h : op ≠ .In := by decide) (h2 : op ≠ .NotIn := by decide) : behindInMarks op b = false := by
  have e1 : (op == CmpOp.In) = false := by cases op <;> first | rfl | exact absurd rfl h
  have e2 : (op == CmpOp.NotIn) = false := by cases op <;> first | rfl | exact absurd rfl h2
  cases b <;> simp [behindInMarks, e1, e2]
theorem pe_cmpR {op : CmpOp} {r : R2} (ho : OpR X (compareOp op) r) (ha : PE X a ta) (hb : PE X b tb) (hm : behindInMarks op b = false) : PE X (.Compare a [op] [b] pos) (tOp r ta tb) := by
  intro pins s σ H Q I h
  exact wpAny_Compare1 (binT ha hb I h fun v u s2 x y H2 I2 rx ry q => ho pins s2 σ H2 x y v u Q I2 rx ry q) hm
def tTest (t : TE) : TT := fun σ H Q => t σ H fun x H' => ∃ k, x = .bl k ∧ Q k H'
theorem pt_cmpR {op : CmpOp} {r : R2} (ho : OpR X (compareOp op) r) (ha : PE X a ta) (hb : PE X b tb) (hm : behindInMarks op b = false) : PT X (.Compare a [op] [b] pos) (tTest (tOp r ta tb)) := by
  intro pins s σ H Q I h
  refine wpAny_isTrue_Compare1 (thn (ha pins s σ H _ I h) fun v s1 ⟨x, H1, I1, r1, q1⟩ => thn (hb pins s1 σ H1 _ I1 q1) fun u s2 ⟨y, H2, I2, r2, q2⟩ =>
    thn (ho pins s2 σ H2 x y v u _ I2 r1 r2 q2) fun c s3 ⟨z, H3, I3, r3, k, e, q3⟩ => ?_) hm
  subst e
  cases r3
  exact wpAny_truthy_bool ⟨H3, I3, q3⟩
def tChain (r r' : R2) (ta tb tc : TE) : TE := fun σ H Q => ta σ H fun x H1 => tb σ H1 fun y H2 => r x y H2 fun z H3 => ∃ k, z = .bl k ∧
  (if k = true then tc σ H3 fun w' H4 => r' y w' H4 Q else Q (.bl false) H3)
theorem pe_chain {op op' : CmpOp} {r r' : R2} (ho : OpR X (compareOp op) r) (ho' : OpR X (compareOp op') r') (ha : PE X a ta) (hb : PE X b tb) (hc : PE X c tc)
    (hm : lastMarks [op, op'] [b, c] = false := by with_unfolding_all rfl) : PE X (.Compare a [op, op'] [b, c] pos) (tChain r r' ta tb tc) := by
  intro pins s σ H Q I h
  refine Compare_chain (thn (ha pins s σ H _ I h) fun v s1 ⟨x, H1, I1, r1, q1⟩ => chain_link (thn (hb pins s1 σ H1 _ I1 q1) fun u s2 ⟨y, H2, I2, r2, q2⟩ =>
    thn (ho pins s2 σ H2 x y v u _ I2 r1 r2 q2) fun d s3 ⟨z, H3, I3, r3, k, e, q3⟩ => ?_)) hm
  subst e
  cases r3
  refine wpAny_truthy_bool ?_
  cases k with
  | false => exact ite_ff ⟨.bl false, H3, I3, rfl, q3⟩
  | true => exact ite_tt (chain_last (thn (hc pins s3 σ H3 _ I3 q3) fun w' s4 ⟨z', H4, I4, r4, q4⟩ => ho' pins s4 σ H4 y z' u w' Q I4 r2 r4 q4))
theorem pt_chain {op op' : CmpOp} {r r' : R2} (ho : OpR X (compareOp op) r) (ho' : OpR X (compareOp op') r') (ha : PE X a ta) (hb : PE X b tb) (hc : PE X c tc)
    (hm : lastMarks [op, op'] [b, c] = false := by with_unfolding_all rfl) : PT X (.Compare a [op, op'] [b, c] pos) (tTest (tChain r r' ta tb tc)) := by
  intro pins s σ H Q I h
  refine isTrue_chain (thn (ha pins s σ H _ I h) fun v s1 ⟨x, H1, I1, r1, q1⟩ => test_link (thn (hb pins s1 σ H1 _ I1 q1) fun u s2 ⟨y, H2, I2, r2, q2⟩ =>
    thn (ho pins s2 σ H2 x y v u _ I2 r1 r2 q2) fun d s3 ⟨z, H3, I3, r3, k, e, q3⟩ => ?_)) hm
  subst e
  cases r3
  refine wpAny_truthy_bool ?_
  cases k with
  | false =>
    obtain ⟨k', e', q'⟩ := q3
    cases e'
    exact ite_ff ⟨H3, I3, q'⟩
  | true =>
    refine ite_tt (test_last (thn (hc pins s3 σ H3 _ I3 q3) fun w' s4 ⟨z', H4, I4, r4, q4⟩ => thn (ho' pins s4 σ H4 y z' u w' _ I4 r2 r4 q4) fun d' s5 ⟨z2, H5, I5, r5, k2, e2, q5⟩ => ?_))
    subst e2
    cases r5
    exact wpAny_truthy_bool ⟨H5, I5, q5⟩
def TruV (K : PySem.W.Frag) (x : V) (H : Hp) (k : Bool) : Prop :=
  match x with
  | .non => k = false
  | .bl b => k = b
  | .int i => k = (i != 0)
  | .str y => y.length ≤ sizeLine ∧ k = ((y.length : Int) != 0)
  | .byt y => y.size ≤ sizeLine ∧ k = ((y.size : Int) != 0)
  | .ref p => (∃ xs, SqL K H p xs ∧ k = !xs.isEmpty) ∨ (∃ xs, SqT K H p xs ∧ k = !xs.isEmpty) ∨ ∃ kvs, H p = some (.dK kvs) ∧ k = !kvs.isEmpty
  | _ => False
theorem isEmpty_kv {κ : Type} {kvs : List (κ × V)} {vs : List (κ × Value)} (r : KV kvs vs) : (!vs.isEmpty) = !kvs.isEmpty := by
  cases r <;> rfl
theorem isEmpty_of {xs : List V} {its : List Value} (r : Vals xs its) : (!its.toArray.isEmpty) = !xs.isEmpty := by
  cases r <;> simp
theorem line63 : (sizeLine : Nat) < 2 ^ 63 := by rw [sizeLine_eq]; decide
theorem tru_ok : TruR X (fun x H Q => ∃ k, TruV X.K x H k ∧ Q k H) := by
  intro pins s σ H x v Q I rx h
  obtain ⟨k, e, q⟩ := h
  have hl := line63
  have hs : sizeLine = 16777216 := sizeLine_eq
  cases x with
  | non =>
    cases rx
    have e' : k = false := e
    subst e'
    exact truthy_none ⟨H, I, q⟩
  | bl b =>
    cases rx
    have e' : k = b := e
    subst e'
    exact wpAny_truthy_bool ⟨H, I, q⟩
  | int i =>
    obtain ⟨t, rfl⟩ := rx
    have e' : k = (i != 0) := e
    subst e'
    exact PySem.P.truthy_int ⟨H, I, q⟩
  | str y =>
    obtain ⟨t, rfl⟩ := rx
    obtain ⟨hy, e'⟩ : y.length ≤ sizeLine ∧ k = ((y.length : Int) != 0) := e
    subst e'
    exact PySem.P.truthy_str (by omega) ⟨H, I.tok _, q⟩
  | byt y =>
    obtain ⟨t, rfl⟩ := rx
    obtain ⟨hy, e'⟩ : y.size ≤ sizeLine ∧ k = ((y.size : Int) != 0) := e
    subst e'
    exact PySem.W.truthy_bytes (by omega) ⟨H, I.tok _, q⟩
  | ref p =>
    cases rx
    have e' : (∃ xs, SqL X.K H p xs ∧ k = !xs.isEmpty) ∨ (∃ xs, SqT X.K H p xs ∧ k = !xs.isEmpty) ∨ ∃ kvs, H p = some (.dK kvs) ∧ k = !kvs.isEmpty := e
    rcases e' with ⟨xs, hx, e'⟩ | ⟨xs, hx, e'⟩ | ⟨kvs, hx, e'⟩
    · subst e'
      obtain ⟨its, r, pl, hz⟩ := I.list hx
      have hlen := r.length
      exact wpAny_truthy_list pl.isList (by simp only [List.size_toArray]; omega) ⟨H, I.tok _, by rw [isEmpty_of r]; exact q⟩
    · subst e'
      obtain ⟨its, r, pl, hz⟩ := I.tuple hx
      have hlen := r.length
      exact truthy_tuple pl (by simp only [List.size_toArray]; omega) ⟨H, I.tok _, by rw [isEmpty_of r]; exact q⟩
    · subst e'
      obtain ⟨hz, hS, vs, r, m⟩ : kvs.length ≤ sizeLine ∧ (p == sysModules) = false ∧ ∃ vs, KV kvs vs ∧ s.heap.DictOf (mixKind X.prog X.w) p vs := I.hok p _ hx
      have hlen : kvs.length = vs.length := Paired.length r
      exact wpAny_truthy_dict hS m (by omega) ⟨H, I.tok _, by rw [isEmpty_kv r]; exact q⟩
  | _ => exact (show False from e).elim
theorem pt_truth (ha : PE X a ta) (he : ∀ whole, isTrue a X.env whole = (do let v ← whole; standAt a.pos; holding [v] (truthy v))) :
    PT X a (fun σ H Q => ta σ H fun x H' => ∃ k, TruV X.K x H' k ∧ Q k H') := by
  intro pins s σ H Q I h
  exact isTrue_plain (thn (ha pins s σ H _ I h) fun v s1 ⟨x, H1, I1, r1, q1⟩ => tru_ok pins s1 σ H1 x v Q I1 r1 q1) (he _)
theorem op_add_str : OpR X (binaryOp .Add) (fun x y H Q => ∃ i j, x = .str i ∧ y = .str j ∧ i.length + j.length ≤ sizeLine ∧ Q (.str (i ++ j)) H) := by
  intro pins s σ H x y v u Q I rx ry h
  obtain ⟨i, j, rfl, rfl, hz, q⟩ := h
  obtain ⟨t, rfl⟩ := rx
  obtain ⟨t', rfl⟩ := ry
  exact add_str (fun t' tk => ⟨.str (i ++ j), H, I.tok _, ⟨_, rfl⟩, q⟩) hz
theorem vals1 {x : V} {us : List Value} (r : Vals [x] us) : ∃ u, us = [u] ∧ RelV x u := by
  cases r with
  | cons r1 r2 => cases r2; exact ⟨_, rfl, r1⟩
theorem vals2 {x y : V} {us : List Value} (r : Vals [x, y] us) : ∃ u w', us = [u, w'] ∧ RelV x u ∧ RelV y w' := by
  cases r with
  | cons r1 r2 =>
    cases r2 with
    | cons r3 r4 => cases r4; exact ⟨_, _, rfl, r1, r3⟩
theorem call_max2 (hc : X.calm = true) : CallR X (.builtin "max") (fun xs H Q => ∃ i j, xs = [.int i, .int j] ∧ Q (.int (if j > i then j else i)) H) := by
  intro pins s σ H xs us Q I r h
  obtain ⟨i, j, rfl, q⟩ := h
  obtain ⟨u, w', rfl, ⟨t, rfl⟩, ⟨t', rfl⟩⟩ := vals2 r
  refine max_two_ints (I.ok.hd hc) fun h' tk k => ⟨_, H, I.kept k, ?_, q⟩
  by_cases hj : j > i
  · rw [if_pos hj, if_pos hj]; exact ⟨_, rfl⟩
  · rw [if_neg hj, if_neg hj]; exact ⟨_, rfl⟩
theorem call_min2 (hc : X.calm = true) : CallR X (.builtin "min") (fun xs H Q => ∃ i j, xs = [.int i, .int j] ∧ Q (.int (if j < i then j else i)) H) := by
  intro pins s σ H xs us Q I r h
  obtain ⟨i, j, rfl, q⟩ := h
  obtain ⟨u, w', rfl, ⟨t, rfl⟩, ⟨t', rfl⟩⟩ := vals2 r
  refine min_two_ints (I.ok.hd hc) fun h' tk k => ⟨_, H, I.kept k, ?_, q⟩
  by_cases hj : j < i
  · rw [if_pos hj, if_pos hj]; exact ⟨_, rfl⟩
  · rw [if_neg hj, if_neg hj]; exact ⟨_, rfl⟩
theorem call_int1 : CallR X (.type "int") (fun xs H Q => (∃ i, xs = [.int i] ∧ Q (.int i) H) ∨ ∃ k, xs = [.bl k] ∧ Q (.int (if k then 1 else 0)) H) := by
  intro pins s σ H xs us Q I r h
  rcases h with ⟨i, rfl, q⟩ | ⟨k, rfl, q⟩
  · obtain ⟨u, rfl, t, rfl⟩ := vals1 r
    exact call_int_int ⟨.int i, H, I, ⟨_, rfl⟩, q⟩
  · obtain ⟨u, rfl, r1⟩ := vals1 r
    cases r1
    exact call_int_bool ⟨.int (if k then 1 else 0), H, I.tok _, ⟨_, rfl⟩, q⟩
end
end L2
namespace L2
open PySem PySem.Spec PyProof.Rows
structure ObjM (h : Heap) (x dx C : Addr) (mA : Str → Option Value) : Prop where
  obj : h.get? x = some (PySem.W.instObj C dx)
  ns : h.Ns1 dx mA
  ne : dx ≠ x
theorem lookIn_ns {h : Heap} {dx : Addr} {mA : Str → Option Value} (n : h.Ns1 dx mA) : ∃ od, h.get? dx = some od ∧ ∀ name, PySem.W.lookIn name od = some (mA name) := by
  obtain ⟨o, es, ep, ho, hd, hk, _, hm⟩ := n
  refine ⟨o, ho, fun name => ?_⟩
  have e := hm name
  unfold nsFind findBy at e
  rw [← Array.find?_toList] at e
  unfold PySem.W.lookIn
  rw [hd]
  dsimp only
  split
  · rename_i y q
    rw [q] at e
    exact congrArg some e
  · rename_i q
    rw [q] at e
    have a : es.toList.any (·.refKey) = false := by
      rw [List.any_eq_false]
      intro y hy
      obtain ⟨z, t, hkey⟩ := hk y (Array.mem_toList_iff.mp hy)
      simp [DictEntry.refKey, hkey]
    have a' : ¬ es.toList.any (·.refKey) = true := by rw [a]; exact Bool.false_ne_true
    rw [if_neg a']
    exact congrArg some e
theorem ObjM.look {h : Heap} {x dx C : Addr} {mA : Str → Option Value} (I : ObjM h x dx C mA) : ∃ od, PySem.W.InstAt h x (PySem.W.instObj C dx) C (some od) ∧ ∀ name, PySem.W.lookIn name od = some (mA name) :=
  let ⟨od, ho, hl⟩ := lookIn_ns I.ns
  ⟨od, ⟨I.obj, rfl, rfl, ho⟩, hl⟩
section
variable {prog : Program} {w : World} {A : Around} {E : Value → Shared → Prop} {s : Shared} {K : PySem.W.Frag} {x dx C f : Addr} {mA : Str → Option Value} {name : Str} {v : Value}
theorem get_map {expr : Bool} {Q : Value → Shared → Prop} (X : K.In s.heap) (I : ObjM s.heap x dx C mA) (hg : PySem.W.plainGet K C name = true) (hh : PySem.W.hasDictIn K C = true)
    (ha : PySem.W.findIn K (.ref C) name = some none) (hv : mA name = some v) (hv' : PySem.W.handedIn v = true) (h : Q v { s with toks := s.toks + 1 }) :
    wpAny (model prog w) A (getAttr (.ref x) name expr) Q E s := by
  obtain ⟨od, J, hl⟩ := I.look
  exact PySem.W.get_value X J (PySem.W.plainGet_of hg).1 (PySem.W.findObj_own hh ha rfl (by rw [hl, hv])) hv' h
theorem get_meth {pl : Sem Bool} {Q : Value × List Value → Shared → Prop} (X : K.In s.heap) (I : ObjM s.heap x dx C mA) (hg : PySem.W.plainGet K C name = true)
    (hf : PySem.W.findIn K (.ref C) name = some (some (.ref f))) (ht : PySem.W.isFn K (.ref f) = true) (hv : mA name = none) (h : Q (.ref f, [.ref x]) s) :
    wpAny (model prog w) A (getMethod (.ref x) name pl) Q E s := by
  obtain ⟨od, J, hl⟩ := I.look
  exact PySem.W.method_fn X J (PySem.W.plainGet_of hg).1 (PySem.W.plainGet_of hg).2 hf (beq_iff_eq.mp ht) (by show (PySem.W.lookIn name od).map (·.isSome) = some false; rw [hl, hv]; rfl) h
theorem set_map {ns : List Str} {Q : Unit → Shared → Prop} (X : K.In s.heap) (I : ObjM s.heap x dx C mA)
    (hs : PySem.W.findIn K (.ref C) "__setattr__" = some (some (.builtin "object.__setattr__"))) (hp : PySem.W.plainOver K C = true) (ht : PySem.W.takerIn K C name = some none) (hh : PySem.W.hasDictIn K C = true)
    (hw : PySem.Within mA ns) (hsz : ns.length ≤ sizeLine)
    (h : ∀ h', ObjM h' x dx C (fun y => if y = name then some v else mA y) → Heap.SameBut dx s.heap h' → Q () { s with heap := h', toks := s.toks + 2 }) :
    wpAny (model prog w) A (setAttr (.ref x) name v) Q E s := by
  obtain ⟨od, J, hl⟩ := I.look
  refine PySem.W.set_plain X J hs (PySem.W.osa_open (s := { s with toks := s.toks + 1 }) (r := none) X J hp ht fun b => ?_)
  obtain ⟨cd, hc, hd'⟩ := PySem.W.any_some hh
  have hx : s.heap.get? x = some ⟨.ref C, some dx, .plain, #[]⟩ := I.obj
  refine wpAny_bind (wpAny_pure (wpAny_bind (wpAny_bind (wpAny_loadPart hx (wpAny_bind (PySem.W.Looks.here (s := { s with toks := s.toks + 1 }) (PySem.W.looks_clsIn X hc) ?_))))))
  rw [hd']
  refine wpAny_pure (a := some dx) (wpAny_bind (wpAny_pure (wpAny_bind ?_)))
  refine wpAny_nsSet1 (s := { s with toks := s.toks + 1 }) I.ns fun h' hn2 hs2 => ?_
  obtain ⟨oD, esD, epD, hoD, hdD, hcD⟩ := hn2.count (PySem.Within.cons name v hw)
  refine wpAny_bind (wpAny_lookBehind hoD (by rw [hdD]; exact pastItsLine_dict (Nat.le_trans hcD (by rw [List.length_cons]; omega))) ?_)
  exact wpAny_pure (h _ ⟨(hs2.2 _ (Ne.symm I.ne)).trans I.obj, hn2, I.ne⟩ hs2)
theorem make_map {R : Result → Shared → Prop} {vs : List Value} {kw : List (Str × Value)} (X : K.In s.heap) (hm : PySem.W.makesIn K C = true)
    (hi : PySem.W.findIn K (.ref C) "__init__" = some (some (.ref f))) (hf : PySem.W.typeIn K (.ref f) = some (.type "function"))
    (h : codeAny (model prog w) (A.under (.builtin "type.__call__" ⟨.ref C :: vs, kw⟩)) (.call (.ref f) ⟨.ref (s.heap.objs.size + 1) :: vs, kw⟩) (PySem.W.InitBack (s.heap.objs.size + 1) R)
      { s with heap := (s.heap.push PySem.W.emptyDict).push (PySem.W.instObj C s.heap.objs.size) }) :
    codeAny (model prog w) A (.call (.ref C) ⟨vs, kw⟩) R s := by
  obtain ⟨hh, g, d, t, os⟩ := s
  exact PySem.W.make_core (PySem.W.makes_of X hm) (PySem.W.looks_findIn X hi) (fun self => PySem.W.bind_fn X self hf) (.inl rfl) h
end
def putF (f : Str) (v : V) : List (Str × V) → List (Str × V)
  | [] => [(f, v)]
  | (g, x) :: r => if g = f then (g, v) :: r else (g, x) :: putF f v r
theorem lookup_putF (f g : Str) (v : V) : ∀ fs : List (Str × V), (putF f v fs).lookup g = if g = f then some v else fs.lookup g
  | [] => by
    show List.lookup g [(f, v)] = _
    by_cases h : g = f
    · have hb : (g == f) = true := beq_iff_eq.mpr h
      simp only [List.lookup, hb, if_pos h]
    · have hb : (g == f) = false := beq_eq_false_iff_ne.mpr h
      simp only [List.lookup, hb, if_neg h]
  | (k, x) :: r => by
    have ih := lookup_putF f g v r
    rw [show putF f v ((k, x) :: r) = (if k = f then (k, v) :: r else (k, x) :: putF f v r) from rfl]
    by_cases hk : k = f
    · rw [if_pos hk]
      by_cases h : g = k
      · have hb : (g == k) = true := beq_iff_eq.mpr h
        simp only [List.lookup, hb, if_pos (h.trans hk)]
      · have hb : (g == k) = false := beq_eq_false_iff_ne.mpr h
        simp only [List.lookup, hb, if_neg (fun e : g = f => h (e.trans hk.symm))]
    · rw [if_neg hk]
      by_cases h : g = k
      · have hb : (g == k) = true := beq_iff_eq.mpr h
        simp only [List.lookup, hb, if_neg (fun e : g = f => hk (h.symm.trans e))]
      · have hb : (g == k) = false := beq_eq_false_iff_ne.mpr h
        simp only [List.lookup, hb]
        exact ih
theorem keys_putF (f : Str) (v : V) : ∀ fs : List (Str × V), f ∈ (putF f v fs).map (·.1) ∧ ∀ g, g ∈ fs.map (·.1) → g ∈ (putF f v fs).map (·.1)
  | [] => ⟨by simp [putF], fun g h => by simp at h⟩
  | (k, x) :: r => by
    obtain ⟨i1, i2⟩ := keys_putF f v r
    rw [show putF f v ((k, x) :: r) = (if k = f then (k, v) :: r else (k, x) :: putF f v r) from rfl]
    by_cases hk : k = f
    · rw [if_pos hk]
      subst hk
      exact ⟨by simp, fun g h => by simpa using h⟩
    · rw [if_neg hk]
      refine ⟨?_, fun g h => ?_⟩
      · rw [List.map_cons]
        exact List.mem_cons_of_mem _ i1
      · rw [List.map_cons] at h ⊢
        rcases List.mem_cons.mp h with e | e
        · exact List.mem_cons.mpr (.inl e)
        · exact List.mem_cons_of_mem _ (i2 g e)
theorem length_putF (f : Str) (v : V) : ∀ fs : List (Str × V), (putF f v fs).length ≤ fs.length + 1
  | [] => by simp [putF]
  | (k, x) :: r => by
    have ih := length_putF f v r
    rw [show putF f v ((k, x) :: r) = (if k = f then (k, v) :: r else (k, x) :: putF f v r) from rfl]
    by_cases hk : k = f
    · rw [if_pos hk, List.length_cons, List.length_cons]; omega
    · rw [if_neg hk, List.length_cons, List.length_cons]; omega
theorem RelO.some_of {v : V} {o : Option Value} (r : RelO (some v) o) : ∃ u, o = some u ∧ RelV v u := by
  cases o with
  | none => exact (show False from r).elim
  | some u => exact ⟨u, rfl, r⟩
theorem RelO.none_of {o : Option Value} (r : RelO none o) : o = none := by
  cases o with
  | none => rfl
  | some u => exact (show False from r).elim
theorem handed_of {v : V} {u : Value} (r : RelV v u) : PySem.W.handedIn u = true := by
  cases v with
  | non => cases (show u = Value.none from r); rfl
  | bl b => cases (show u = Value.bool b from r); rfl
  | int i => obtain ⟨t, e⟩ := (show ∃ t, u = Value.int i t from r); cases e; rfl
  | str x => obtain ⟨t, e⟩ := (show ∃ t, u = Value.str x t from r); cases e; rfl
  | byt b => obtain ⟨t, e⟩ := (show ∃ t, u = Value.bytes b t from r); cases e; rfl
  | flt b => obtain ⟨t, e⟩ := (show ∃ t, u = Value.float b t from r); cases e; rfl
  | ref a => cases (show u = Value.ref a from r); rfl
  | ty n => cases (show u = Value.type n from r); rfl
section
variable {P : Program} {w : World} {H H' : Hp} {h h' : Heap} {a C dx : Addr} {fs fs' : List (Str × V)}
theorem ins_get (hok : HOk P w H h) (e : H a = some (.ins C dx fs)) : ∃ mA, ObjM h a dx C mA ∧ (∀ f, RelO (fs.lookup f) (mA f)) ∧ PySem.Within mA (fs.map (·.1)) ∧ fs.length ≤ 1000 ∧ H dx = some (.own a) := by
  obtain ⟨d, z, ne, ob, mA, n, r, q⟩ := (show ObjOk P w H h a (.ins C dx fs) from hok a _ e)
  exact ⟨mA, ⟨ob, n, ne⟩, r, q, z, d⟩
end
structure Cls (K : PySem.W.Frag) (C : Addr) : Prop where
  pg : PySem.W.plainGet K C Str.empty = true
  hd : PySem.W.hasDictIn K C = true
  po : PySem.W.plainOver K C = true
  sa : PySem.W.findIn K (.ref C) "__setattr__" = some (some (.builtin "object.__setattr__"))
theorem Cls.get {K : PySem.W.Frag} {C : Addr} (c : Cls K C) (f : Str) : PySem.W.plainGet K C f = true := c.pg
def NoAttr (K : PySem.W.Frag) (C : Addr) (f : Str) : Prop := PySem.W.findIn K (.ref C) f = some none
theorem NoAttr.taker {K : PySem.W.Frag} {C : Addr} {f : Str} (n : NoAttr K C f) : PySem.W.takerIn K C f = some none := by
  unfold PySem.W.takerIn
  rw [show PySem.W.findIn K (.ref C) f = some none from n]
  rfl
structure Con (K : PySem.W.Frag) (C : Addr) (f : Str) (v : V) (u : Value) : Prop where
  at_ : PySem.W.findIn K (.ref C) f = some (some u)
  rel : RelV v u
  get : PySem.W.specialIn K u "__get__" = some none
  cp : PySem.W.copiedNames.contains f = false
structure Meth (K : PySem.W.Frag) (C : Addr) (m : Str) (f : Addr) : Prop where
  at_ : PySem.W.findIn K (.ref C) m = some (some (.ref f))
  fn : PySem.W.isFn K (.ref f) = true
  kp : PySem.W.keepIn K (.ref f) = true
section
variable {X : Cx} {pins : List (Addr × Obj)} {σ : St} {H : Hp} {s : Shared} {a C dx : Addr} {fs : List (Str × V)} {f : Str} {v : V} {A : Around} {E : Value → Shared → Prop}
theorem getattr_ok {b : Bool} {Q : Value → Shared → Prop} (I : Inv X pins σ H s) (e : H a = some (.ins C dx fs)) (c : Cls X.K C) (n : NoAttr X.K C f) (l : fs.lookup f = some v)
    (h : ∀ u s', Inv X pins σ H s' → RelV v u → Q u s') : wpAny (model X.prog X.w) A (getAttr (.ref a) f b) Q E s := by
  obtain ⟨mA, O, r, _, _, _⟩ := ins_get I.hok e
  obtain ⟨u, hu, ru⟩ := RelO.some_of (v := v) (o := mA f) (by rw [← l]; exact r f)
  exact get_map I.kIn O (c.get f) c.hd n hu (handed_of ru) (h u _ (I.tok _) ru)
theorem getmeth_ok {m : Str} {g : Addr} {pl : Sem Bool} {Q : Value × List Value → Shared → Prop} (I : Inv X pins σ H s) (e : H a = some (.ins C dx fs)) (c : Cls X.K C) (k : Meth X.K C m g) (l : fs.lookup m = none)
    (h : Q (.ref g, [.ref a]) s) : wpAny (model X.prog X.w) A (getMethod (.ref a) m pl) Q E s := by
  obtain ⟨mA, O, r, _, _, _⟩ := ins_get I.hok e
  have hn : mA m = none := RelO.none_of (by rw [← l]; exact r m)
  exact get_meth I.kIn O (c.get m) k.at_ k.fn hn h
theorem setattr_ok {y : V} {u : Value} {Q : Unit → Shared → Prop} (I : Inv X pins σ H s) (e : H a = some (.ins C dx fs)) (c : Cls X.K C) (n : NoAttr X.K C f) (hl : fs.length < 1000) (ry : RelV y u)
    (h : ∀ s', Inv X pins σ (upd H a (.ins C dx (putF f y fs))) s' → Q () s') : wpAny (model X.prog X.w) A (setAttr (.ref a) f u) Q E s := by
  obtain ⟨mA, O, r, wi, _, ho⟩ := ins_get I.hok e
  have hz : (fs.map (·.1)).length ≤ sizeLine := by rw [List.length_map, sizeLine_eq]; omega
  refine set_map I.kIn O c.sa c.po n.taker c.hd wi hz fun h' O' sb => h _ ?_
  have hd : ∃ o, h'.get? dx = some o := let ⟨o, _, _, e', _⟩ := O'.ns; ⟨o, e'⟩
  refine I.write (x := a) (e := dx) (by rw [e]; exact True.intro) (.inr ho) (fun b q hb z => (sb.2 b hb).trans z) hd ?_
  refine ⟨by rw [upd_ne O.ne]; exact ho, ?_, O.ne, O'.obj, _, O'.ns, fun g => ?_, fun g hg => ?_⟩
  · have := length_putF f y fs; omega
  · show RelO ((putF f y fs).lookup g) (if g = f then some u else mA g)
    rw [lookup_putF]
    by_cases q : g = f
    · rw [if_pos q, if_pos q]; exact ry
    · rw [if_neg q, if_neg q]; exact r g
  · by_cases q : g = f
    · rw [q]; exact (keys_putF f y fs).1
    · refine (keys_putF f y fs).2 g (wi g fun z => hg ?_)
      show (if g = f then some u else mA g) = none
      rw [if_neg q]; exact z
theorem Inv.made (I : Inv X pins σ H s) : Inv X pins σ (upd (upd H s.heap.objs.size (.own (s.heap.objs.size + 1))) (s.heap.objs.size + 1) (.ins C s.heap.objs.size []))
    { s with heap := (s.heap.push PySem.W.emptyDict).push (PySem.W.instObj C s.heap.objs.size) } := by
  have e1 : (s.heap.push PySem.W.emptyDict).get? s.heap.objs.size = some PySem.W.emptyDict := Heap.get?_push_size s.heap rfl
  have e2 : ((s.heap.push PySem.W.emptyDict).push (PySem.W.instObj C s.heap.objs.size)).get? (s.heap.objs.size + 1) = some (PySem.W.instObj C s.heap.objs.size) := by
    have := Heap.get?_push_size (s.heap.push PySem.W.emptyDict) (o := PySem.W.instObj C s.heap.objs.size) rfl
    rwa [Heap.size_push] at this
  have e3 : (s.heap.push PySem.W.emptyDict).Ns s.heap.objs.size (fun _ => none) := ⟨PySem.W.emptyDict, #[], _, e1, rfl, (fun e he => absurd he (by simp)), fun _ => rfl⟩
  have I1 := I.laid (a := s.heap.objs.size) (o := .own (s.heap.objs.size + 1)) (h' := s.heap.push PySem.W.emptyDict) (t' := s.toks) (fun b u q => Heap.get?_push_of_some _ q) (Nat.le_refl _) ⟨_, e1⟩
  refine I1.laid (a := s.heap.objs.size + 1) (o := .ins C s.heap.objs.size []) (t' := s.toks) (fun b u q => Heap.get?_push_of_some _ q) (Nat.le_of_eq (Heap.size_push _ _)) ?_
  have ne : s.heap.objs.size ≠ s.heap.objs.size + 1 := Nat.ne_of_lt (Nat.lt_succ_self _)
  refine ⟨by rw [upd_ne ne, upd_same], Nat.zero_le _, ne, e2, fun _ => none, (Heap.Ns1.of_empty e3).at fun o q => Heap.get?_push_of_some _ q, fun _ => True.intro, fun y hy => absurd rfl hy⟩
theorem attr_of {prog : Program} {w : World} {env : Env} {e : Expr} {f : Str} {pos : Pos} {s : Shared} {Q : Value → Shared → Prop} (hb : attributeBase e f env (eval e env) = eval e env)
    (h : wpAny (model prog w) A (eval e env) (fun o s₁ => wpAny (model prog w) A (getAttr o f true) Q E s₁) E s) : wpAny (model prog w) A (eval (.Attribute e f pos) env) Q E s :=
  Attribute_any_ h (by rw [arm_eval_Attribute, hb])
end
def tFld (K : PySem.W.Frag) (ta : TE) (f : Str) : TE := fun σ H Q => ta σ H fun x H1 => ∃ a C dx fs v, x = .ref a ∧ H1 a = some (.ins C dx fs) ∧ Cls K C ∧ NoAttr K C f ∧ fs.lookup f = some v ∧ Q v H1
def sFld (K : PySem.W.Frag) (ta tv : TE) (f : Str) : TS := fun D σ H => tv σ H fun y H1 => ta σ H1 fun x H2 => ∃ a C dx fs, x = .ref a ∧ H2 a = some (.ins C dx fs) ∧ Cls K C ∧ NoAttr K C f ∧ fs.length < 1000 ∧
  D.nx σ (upd H2 a (.ins C dx (putF f y fs)))
section
variable {X : Cx} {o e value : Expr} {f : Str} {pos pos' tpos : Pos} {ta tv : TE}
theorem pe_fld (he : PE X e ta) (hb : attributeBase e f X.env (eval e X.env) = eval e X.env) : PE X (.Attribute e f pos) (tFld X.K ta f) := by
  intro pins s σ H Q I h
  refine attr_of hb (thn (he pins s σ H _ I h) fun u s1 ⟨x, H1, I1, rx, a, C, dx, fs, v, ex, ea, c, n, l, q⟩ => ?_)
  subst ex
  obtain rfl : u = Value.ref a := rx
  exact getattr_ok I1 ea c n l fun u' s2 I2 ru => ⟨v, H1, I2, ru, q⟩
theorem ps_fld (ha : PE X o ta) (hv : PE X value tv) (hs : swapsWith value (some (.Attribute o f pos')) pos.line X.env = pure false) : PS X (.Assign [.Attribute o f pos'] value pos) (sFld X.K ta tv f) := by
  intro pins s σ H D I h
  refine plainObj_wpAny_Assign_Attribute (thn (hv pins s σ H _ I h) fun u s1 ⟨y, H1, I1, ry, q⟩ => thn (ha pins s1 σ H1 _ I1 q) fun ov s2 ⟨x, H2, I2, rx, a, C, dx, fs, ex, ea, c, n, l, q2⟩ => ?_) hs
  subst ex
  obtain rfl : ov = Value.ref a := rx
  exact setattr_ok I2 ea c n l ry fun s3 I3 => ⟨σ, _, I3, q2⟩
end
section
variable {X : Cx} {pins : List (Addr × Obj)} {σ : St} {H : Hp} {s : Shared} {A : Around} {E : Value → Shared → Prop} {Q : Value → Shared → Prop} {c : Value} {b : Bool}
inductive TyOf (K : PySem.W.Frag) (H : Hp) : V → Value → Prop where
  | non : TyOf K H .non (.type "NoneType")
  | bl (x : Bool) : TyOf K H (.bl x) (.type "bool")
  | int (i : Int) : TyOf K H (.int i) (.type "int")
  | str (x : Str) : TyOf K H (.str x) (.type "str")
  | flt (x : UInt64) : TyOf K H (.flt x) (.type "float")
  | lst {a : Addr} {xs : List V} (e : H a = some (.lst xs)) : TyOf K H (.ref a) (.type "list")
  | frz {a : Addr} {o : Obj} {xs : List V} (e : H a = some (.frz o (.lst xs))) : TyOf K H (.ref a) (.type "list")
  | tup {a : Addr} {xs : List V} (e : H a = some (.tup xs)) : TyOf K H (.ref a) (.type "tuple")
  | dK {a : Addr} {kvs : List (Key × V)} (e : H a = some (.dK kvs)) : TyOf K H (.ref a) (.type "dict")
  | dT {a : Addr} {kvs : List (List Key × V)} (e : H a = some (.dT kvs)) : TyOf K H (.ref a) (.type "dict")
  | ins {a C dx : Addr} {fs : List (Str × V)} (e : H a = some (.ins C dx fs)) (cl : Cls K C) (ha : PySem.W.findIn K (.ref C) "__class__" = some (some (.builtin "object.__class__")))
      (hn : PySem.W.specialIn K (.builtin "object.__class__") "__get__" = some (some (.builtin "getset_descriptor.__get__"))) (htk : PySem.W.takesIn K (.builtin "object.__class__") = some true)
      (hm : PySem.W.mroIn K C (.type "object") = some true) : TyOf K H (.ref a) (.ref C)
theorem isinst_ok {x : V} {u t : Value} (I : Inv X pins σ H s) (rx : RelV x u) (ty : TyOf X.K H x t) (e : PySem.W.kitOne X.K t c = some b) (h : ∀ tk, Q (.bool b) { s with toks := tk }) :
    wpAny (model X.prog X.w) A (call (.builtin "isinstance") [u, c]) Q E s := by
  cases ty with
  | non => cases (show u = Value.none from rx); exact PySem.W.kia_one PySem.W.kitx_none I.kIn True.intro e (fun z => nomatch z) h
  | bl y => cases (show u = Value.bool y from rx); exact PySem.W.kia_one PySem.W.kitx_bool I.kIn True.intro e (fun z => nomatch z) h
  | int i => obtain ⟨t, q⟩ := (show ∃ t, u = Value.int i t from rx); cases q; exact PySem.W.kia_one PySem.W.kitx_int I.kIn True.intro e (fun z => nomatch z) h
  | str y => obtain ⟨t, q⟩ := (show ∃ t, u = Value.str y t from rx); cases q; exact PySem.W.kia_one PySem.W.kitx_str I.kIn True.intro e (fun z => nomatch z) h
  | flt y => obtain ⟨t, q⟩ := (show ∃ t, u = Value.float y t from rx); cases q; exact PySem.W.kia_one PySem.W.kitx_float I.kIn True.intro e (fun z => nomatch z) h
  | @lst a xs ea =>
    cases (show u = Value.ref a from rx)
    obtain ⟨_, _, n, _, h1⟩ := (show ObjOk X.prog X.w H s.heap a (.lst xs) from I.hok a _ ea)
    exact PySem.W.kia_one PySem.W.kitx_list I.kIn ⟨_, h1, rfl⟩ e (fun z => nomatch z) h
  | @frz a ob xs ea =>
    cases (show u = Value.ref a from rx)
    obtain ⟨_, _, _, n, _, h1⟩ := (show ObjOk X.prog X.w H s.heap a (.frz ob (.lst xs)) from I.hok a _ ea)
    exact PySem.W.kia_one PySem.W.kitx_list I.kIn ⟨_, h1, rfl⟩ e (fun z => nomatch z) h
  | @tup a xs ea =>
    cases (show u = Value.ref a from rx)
    obtain ⟨_, _, _, p⟩ := (show ObjOk X.prog X.w H s.heap a (.tup xs) from I.hok a _ ea)
    obtain ⟨o, h1, h2, _⟩ := p
    exact PySem.W.kia_one PySem.W.kitx_tuple I.kIn ⟨o, h1, h2⟩ e (fun z => nomatch z) h
  | @dK a kvs ea =>
    cases (show u = Value.ref a from rx)
    obtain ⟨_, _, vs, _, p⟩ := (show ObjOk X.prog X.w H s.heap a (.dK kvs) from I.hok a _ ea)
    obtain ⟨o, es, ep, h1, h2, _⟩ := p
    exact PySem.W.kia_one PySem.W.kitx_dict I.kIn ⟨o, h1, h2.1⟩ e (fun z => nomatch z) h
  | @dT a kvs ea =>
    cases (show u = Value.ref a from rx)
    obtain ⟨_, _, xs, _, o, es, ep, h1, h2, _⟩ := (show ObjOk X.prog X.w H s.heap a (.dT kvs) from I.hok a _ ea)
    exact PySem.W.kia_one PySem.W.kitx_dict I.kIn ⟨o, h1, h2.1⟩ e (fun z => nomatch z) h
  | @ins a C dx fs ea cl ha hn htk hm =>
    cases (show u = Value.ref a from rx)
    obtain ⟨mA, O, _⟩ := ins_get I.hok ea
    obtain ⟨od, J, _⟩ := O.look
    exact PySem.W.kia_one (PySem.W.kitx_own (cl.get _) cl.hd ha hn htk hm) I.kIn J e (fun z => nomatch z) h
end
end L2
namespace L2
open PySem PySem.Spec PyProof.Rows
structure Room (k : Nat) (A : Around) : Prop where
  hd : A.handled = none
  dp : A.depth + 3 * k + 5 < recursionLimit
  un : A.units + 16 * k + 200 < cLine
theorem Room.mono {j k : Nat} {A : Around} (r : Room k A) (h : j ≤ k) : Room j A := ⟨r.hd, by have := r.dp; omega, by have := r.un; omega⟩
theorem Room.deeper {k : Nat} {A : Around} (r : Room (k + 1) A) (env : Env) : Room k (A.deeper env) :=
  ⟨r.hd, by have := r.dp; show A.depth + 1 + 3 * k + 5 < _; omega, by have := r.un; show A.units + 3 + 16 * k + 200 < _; omega⟩
theorem make_depth {A : Around} {C : Addr} {us : List Value} {kw : List (Str × Value)} : (A.under (.builtin "type.__call__" ⟨.ref C :: us, kw⟩)).depth = A.depth + 1 := by
  first | rfl | simp [Around.under, Code.weight, Code.isCreation, Code.isGuard, Code.isCaller, Code.frames, Code.isFrame, guardIds]
theorem make_units {A : Around} {C : Addr} {us : List Value} {kw : List (Str × Value)} : (A.under (.builtin "type.__call__" ⟨.ref C :: us, kw⟩)).units = A.units + 1 := by
  first | rfl | simp [Around.under, Code.cUnits, Code.frames, Code.isFrame]
theorem Room.make {k : Nat} {A : Around} (r : Room (k + 1) A) (C : Addr) (us : List Value) (kw : List (Str × Value)) : Room k (A.under (.builtin "type.__call__" ⟨.ref C :: us, kw⟩)) :=
  ⟨r.hd, by have := r.dp; rw [make_depth]; omega, by have := r.un; rw [make_units]; omega⟩
theorem Room.depth {k : Nat} {A : Around} (r : Room k A) : A.depth < recursionLimit := by have := r.dp; omega
theorem Room.units {k : Nat} {A : Around} (r : Room k A) : A.units + 64 < cLine := by have := r.un; omega
def tNil : TA := fun _ H Q => Q [] H
def tCons (ta : TE) (tr : TA) : TA := fun σ H Q => ta σ H fun x H1 => tr σ H1 fun xs H2 => Q (x :: xs) H2
section
variable {X : Cx} {e : Expr} {es : List Expr} {te : TE} {t : TA} {pos : Pos}
theorem pa_nil : PA X [] tNil := fun _ _ _ _ H Q I h => Calls.spliced_nil ⟨[], H, I, .nil, h⟩
theorem pa_cons (ha : PE X e te) (hr : PA X es t) (hs : starEach (e :: es) X.env = (false, eval e X.env) :: starEach es X.env := by rfl) : PA X (e :: es) (tCons te t) := by
  intro pos pins s σ H Q I h
  rw [hs]
  show wpAny _ _ (spliced ((false, eval e X.env) :: backTo pos (starEach es X.env))) _ _ s
  refine Calls.spliced_cons (thn (ha pins s σ H _ I h) fun u s1 ⟨x, H1, I1, r1, q1⟩ => ?_)
  exact thn (hr pos pins s1 σ H1 _ I1 q1) fun us s2 ⟨xs, H2, I2, r2, q2⟩ => ⟨x :: xs, H2, I2, .cons r1 r2, q2⟩
def tTup (t : TA) : TE := fun σ H Q => t σ H fun xs H1 => xs.length ≤ sizeLine ∧ ∀ p, H1 p = none → Q (.ref p) (upd H1 p (.tup xs))
def tLst (t : TA) : TE := fun σ H Q => t σ H fun xs H1 => xs.length ≤ sizeLine ∧ ∀ p, H1 p = none → Q (.ref p) (upd H1 p (.lst xs))
theorem pe_tup {x1} (h : PA X es t) : PE X (.Tuple es x1 pos) (tTup t) := by
  intro pins s σ H Q I hq
  refine wpAny_Tuple_spliced (thn (h pos pins s σ H _ I hq) fun us s1 ⟨xs, H1, I1, r, z, q⟩ => ⟨by rw [← r.length]; exact z, ?_⟩)
  have hf : H1 s1.heap.objs.size = none := I1.hok.fresh (Nat.le_refl _)
  refine ⟨.ref s1.heap.objs.size, upd H1 s1.heap.objs.size (.tup xs), I1.laid (t' := s1.toks) (fun b u e => Heap.get?_push_of_some _ e) (Nat.le_refl _) ?_, rfl, q _ hf⟩
  exact ⟨z, us, r, ⟨_, Heap.get?_push_size _ rfl, rfl, _, rfl⟩⟩
theorem pe_lst (h : PA X es t) : PE X (.List es pos) (tLst t) := by
  intro pins s σ H Q I hq
  refine wpAny_List_spliced (thn (h pos pins s σ H _ I hq) fun us s1 ⟨xs, H1, I1, r, z, q⟩ => ⟨by rw [← r.length]; exact z, ?_⟩)
  have hf : H1 s1.heap.objs.size = none := I1.hok.fresh (Nat.le_refl _)
  refine ⟨.ref s1.heap.objs.size, upd H1 s1.heap.objs.size (.lst xs), I1.laid (t' := s1.toks) (fun b u e => Heap.get?_push_of_some _ e) (Nat.le_refl _) ?_, rfl, q _ hf⟩
  exact ⟨z, us, 0, r, Heap.get?_push_size _ rfl⟩
end
abbrev Sp := List V → Hp → VK → XK → Prop
abbrev CXT := List Env → Hp → Shared → XK → Value → Shared → Prop
structure Env0 (P : Program) (w : World) (K : PySem.W.Frag) (mg : Str → Option Value) (base : Heap) (A : Around) (outer : List Env) (s : Shared) (H : Hp) : Prop where
  frames : A.frames = some outer
  mod : Mod K mg base
  bs : ∀ b o, base.get? b = some o → s.heap.get? b = some o ∧ H b = none
  bsz : base.objs.size ≤ s.heap.objs.size
  funs : s.heap.FunFrames base outer
  frf : ∀ b ∈ frs outer, H b = none
  hok : HOk P w H s.heap
  bare : AllBare s.gens
def CE (outer : List Env) (P : Program) (w : World) (H : Hp) (s : Shared) (Q : VK) (u : Value) (s' : Shared) : Prop :=
  ∃ v H', s'.os = s.os ∧ AllBare s'.gens ∧ Un (frs outer) [] H H' s.heap s'.heap ∧ HOk P w H' s'.heap ∧ RelV v u ∧ Q v H'
def CR (CX : CXT) (outer : List Env) (P : Program) (w : World) (H : Hp) (s : Shared) (Q : VK) (E : XK) (r : Result) (s' : Shared) : Prop :=
  match r with
  | .ok (.ret u) => CE outer P w H s Q u s'
  | .ok _ => False
  | .error e => CX outer H s E e s'
structure FnOk (P : Program) (w : World) (K : PySem.W.Frag) (mg : Str → Option Value) (base : Heap) (CX : CXT) (k : Nat) (f : Addr) (fd : FuncData) (ps : List Str) (sp : Sp) : Prop where
  len : ∀ vs H Q E, sp vs H Q E → vs.length = ps.length
  run : ∀ (A : Around) (outer : List Env) (s : Shared) (H : Hp) (args : Args) (us : List Value) (vs : List V) (Q : VK) (E : XK), Room k A → Env0 P w K mg base A outer s H → BindsTo s fd args (ps.zip us) → Vals vs us → sp vs H Q E →
    codeAny (model P w) A (.call (.ref f) args) (CR CX outer P w H s Q E) s
theorem Env0.make {P : Program} {w : World} {K : PySem.W.Frag} {mg : Str → Option Value} {base : Heap} {A : Around} {outer : List Env} {s : Shared} {H : Hp} (e : Env0 P w K mg base A outer s H) (C : Addr) (us : List Value) (kw : List (Str × Value)) :
    Env0 P w K mg base (A.under (.builtin "type.__call__" ⟨.ref C :: us, kw⟩)) outer s H := ⟨by first | exact e.frames | (simpa [Around.under, Code.envs, Code.isFrame, pushEnvs] using e.frames), e.mod, e.bs, e.bsz, e.funs, e.frf, e.hok, e.bare⟩
section
variable {X : Cx} {pins : List (Addr × Obj)} {σ : St} {H : Hp} {s s' : Shared}
theorem Inv.env0 (I : Inv X pins σ H s) : Env0 X.prog X.w X.K X.mg X.base X.A X.stack s H :=
  ⟨I.ok.frames, I.ok.mod, I.bs, Nat.le_trans I.ok.bsz I.sz, I.stack, I.stkFree, I.hok, I.bare⟩
theorem Inv.after {Q : VK} {u : Value} (I : Inv X pins σ H s) (h : CE X.stack X.prog X.w H s Q u s') : EP X pins σ Q u s' := by
  obtain ⟨v, H', os, bare, un, hok, r, q⟩ := h
  obtain ⟨hh, g, d, t, os'⟩ := s'
  obtain rfl : os' = s.os := os
  exact ⟨v, H', I.call (h' := hh) (g' := g) (d' := d) (t' := t) (ch := []) un hok bare (fun b z => absurd z (by simp)), r, q⟩
end
def tCall (sp : Sp) (dvs : List V) (E : XK) (t : TA) : TE := fun σ H Q => t σ H fun vs H1 => sp (vs ++ dvs) H1 Q E
def tMeth (C : Addr) (m : Str) (sp : Sp) (dvs : List V) (E : XK) (ta : TE) (t : TA) : TE := fun σ H Q => ta σ H fun x H1 => ∃ a dx fs, x = .ref a ∧ H1 a = some (.ins C dx fs) ∧ fs.lookup m = none ∧
  t σ H1 fun vs H2 => sp (x :: (vs ++ dvs)) H2 Q E
def tMake (C : Addr) (sp : Sp) (dvs : List V) (E : XK) (t : TA) : TE := fun σ H Q => t σ H fun vs H1 => ∀ x dx, H1 x = none → H1 dx = none → dx ≠ x →
  sp (.ref x :: (vs ++ dvs)) (upd (upd H1 dx (.own x)) x (.ins C dx [])) (fun v H2 => v = .non ∧ Q (.ref x) H2) E
def Binds (K : PySem.W.Frag) (fd : FuncData) (ps : List Str) (ds : List Value) : Prop :=
  ∀ (s : Shared) (us : List Value), K.In s.heap → (us ++ ds).length = ps.length → BindsTo s fd ⟨us, []⟩ (ps.zip (us ++ ds))
theorem Binds.all {K : PySem.W.Frag} {fd : FuncData} {ps : List Str} (h : ∀ us : List Value, us.length = ps.length → bindArgs fd ⟨us, []⟩ = pure (ps.zip us)) : Binds K fd ps [] := fun s us _ hl => by
  rw [List.append_nil] at hl ⊢
  exact .of_eq (h us hl)
def Passes (CX : CXT) (X : Cx) (E : XK) : Prop := ∀ (pins : List (Addr × Obj)) (σ : St) (H : Hp) (s : Shared) (e : Value) (s' : Shared), Inv X pins σ H s → CX X.stack H s E e s' → X.xe e s'
section
variable {X : Cx} {CX : CXT} {k : Nat} {f C : Addr} {fd : FuncData} {ps : List Str} {sp : Sp} {dvs : List V} {ds : List Value} {E : XK} {x m : Str} {p pos apos : Pos} {e o : Expr} {es : List Expr} {ta : TE} {t : TA}
theorem run_fn {pins : List (Addr × Obj)} {σ : St} {H : Hp} {s : Shared} {Q : VK} {us : List Value} {vs : List V} (F : FnOk X.prog X.w X.K X.mg X.base CX k f fd ps sp) (hr : Room k X.A) (hb : Binds X.K fd ps ds) (hd : Vals dvs ds) (hx : Passes CX X E)
    (I : Inv X pins σ H s) (r : Vals vs us) (h : sp (vs ++ dvs) H Q E) : wpAny (model X.prog X.w) X.A (call (.ref f) us) (EP X pins σ Q) X.xe s := by
  have r2 : Vals (vs ++ dvs) (us ++ ds) := r.append hd
  have hl : (us ++ ds).length = ps.length := by rw [← r2.length]; exact F.len _ _ _ _ h
  refine wpAny_call (codeAny_mono (F.run X.A X.stack s H ⟨us, []⟩ (us ++ ds) (vs ++ dvs) Q E hr I.env0 (hb s us I.kIn hl) r2 h) fun r s' hq => ?_)
  cases r with
  | error e => exact hx pins σ H s e s' I hq
  | ok fl =>
    cases fl with
    | ret u => exact I.after hq
    | next => exact False.elim hq
    | brk => exact False.elim hq
    | cont => exact False.elim hq
theorem pe_call (F : FnOk X.prog X.w X.K X.mg X.base CX k f fd ps sp) (hr : Room k X.A) (hg : Gl X x) (hm : X.mg x = some (.ref f)) (hk : PySem.W.keepIn X.K (.ref f) = true) (hb : Binds X.K fd ps ds) (hd : Vals dvs ds) (hx : Passes CX X E)
    (ha : PA X (e :: es) t) (hdb : (x == ("__debug__" : Str)) = false := by decide) (he : starEach (e :: es) X.env = (false, eval e X.env) :: starEach es X.env := by rfl) (hpl : (backTo pos (starEach es X.env)).any (·.1) = false := by rfl) :
    PE X (.Call (.Name x p) (e :: es) [] pos) (tCall sp dvs E t) := by
  intro pins s σ H Q I h
  refine wpAny_Call_Name_kw (ld_glob I hg hm ?_ hdb)
  refine PySem.W.callWith_K (h₀ := X.base) I.ok.mod.kin hk (thn (ha pos pins s σ H _ I h) fun us s1 ⟨vs, H1, I1, r, q⟩ => ⟨I1.kIn, ?_⟩) he hpl
  exact run_fn F hr hb hd hx I1 r q
theorem pe_meth {pl : Sem Bool} (he : PE X o ta) (c : Cls X.K C) (hm : Meth X.K C m f) (F : FnOk X.prog X.w X.K X.mg X.base CX k f fd ps sp) (hr : Room k X.A) (hb : Binds X.K fd ps ds) (hd : Vals dvs ds) (hx : Passes CX X E) (ha : PA X (e :: es) t)
    (hst : starEach (e :: es) X.env = (false, eval e X.env) :: starEach es X.env := by rfl) (hpl : (backTo pos (starEach es X.env)).any (·.1) = false := by rfl)
    (ht : eval (.Call (.Attribute o m apos) (e :: es) [] pos) X.env = (do
      let ov ← eval o X.env
      standAt apos.atName
      let (f, first) ← holding [ov] (getMethod ov m pl)
      callWith pos f first (backTo pos (starEach (e :: es) X.env)) (backToKw pos (keywordEach [] X.env))) := by rfl) :
    PE X (.Call (.Attribute o m apos) (e :: es) [] pos) (tMeth C m sp dvs E ta t) := by
  intro pins s σ H Q I h
  refine PySem.W.methodCall_KW (pl := pl) (thn (he pins s σ H _ I h) fun u s1 ⟨x, H1, I1, rx, a, dx, fs, ex, ea, l, q⟩ => ?_) ht
  subst ex
  obtain rfl : u = Value.ref a := rx
  refine getmeth_ok I1 ea c hm l ?_
  refine PySem.W.callWith_K (first := [.ref a]) (h₀ := X.base) I.ok.mod.kin hm.kp (thn (ha pos pins s1 σ H1 _ I1 q) fun us s2 ⟨vs, H2, I2, r, q2⟩ => ⟨I2.kIn, ?_⟩) hst hpl
  exact run_fn (us := .ref a :: us) (vs := .ref a :: vs) F hr hb hd hx I2 (.cons rfl r) q2
theorem pe_meth0 {pl : Sem Bool} (he : PE X o ta) (c : Cls X.K C) (hm : Meth X.K C m f) (F : FnOk X.prog X.w X.K X.mg X.base CX k f fd ps sp) (hr : Room k X.A) (hb : Binds X.K fd ps ds) (hd : Vals dvs ds) (hx : Passes CX X E)
    (ht : eval (.Call (.Attribute o m apos) [] [] pos) X.env = (do
      let ov ← eval o X.env
      standAt apos.atName
      let (f, first) ← holding [ov] (getMethod ov m pl)
      callWith pos f first (backTo pos (starEach [] X.env)) (backToKw pos (keywordEach [] X.env))) := by rfl) :
    PE X (.Call (.Attribute o m apos) [] [] pos) (tMeth C m sp dvs E ta tNil) := by
  intro pins s σ H Q I h
  refine PySem.W.methodCall_KW (pl := pl) (thn (he pins s σ H _ I h) fun u s1 ⟨x, H1, I1, rx, a, dx, fs, ex, ea, l, q⟩ => ?_) ht
  subst ex
  obtain rfl : u = Value.ref a := rx
  refine getmeth_ok I1 ea c hm l ?_
  exact PySem.W.callWith_K0 (first := [.ref a]) I1.kIn hm.kp (run_fn (us := [.ref a]) (vs := [.ref a]) F hr hb hd hx I1 (.cons rfl .nil) q)
structure Mk (K : PySem.W.Frag) (C f : Addr) : Prop where
  makes : PySem.W.makesIn K C = true
  init : PySem.W.findIn K (.ref C) "__init__" = some (some (.ref f))
  fn : PySem.W.isFn K (.ref f) = true
  kp : PySem.W.keepIn K (.ref C) = true
theorem run_make {pins : List (Addr × Obj)} {σ : St} {H : Hp} {s : Shared} {Q : VK} {us : List Value} {vs : List V} (M : Mk X.K C f) (F : FnOk X.prog X.w X.K X.mg X.base CX k f fd ps sp) (hr : Room (k + 1) X.A) (hb : Binds X.K fd ps ds) (hd : Vals dvs ds)
    (hx : Passes CX X E) (I : Inv X pins σ H s) (r : Vals vs us)
    (h : ∀ x dx, H x = none → H dx = none → dx ≠ x → sp (.ref x :: (vs ++ dvs)) (upd (upd H dx (.own x)) x (.ins C dx [])) (fun v H2 => v = .non ∧ Q (.ref x) H2) E) :
    wpAny (model X.prog X.w) X.A (call (.ref C) us) (EP X pins σ Q) X.xe s := by
  have hq := h (s.heap.objs.size + 1) s.heap.objs.size (I.hok.fresh (Nat.le_succ _)) (I.hok.fresh (Nat.le_refl _)) (Nat.ne_of_lt (Nat.lt_succ_self _))
  have I2 := Inv.made (C := C) I
  have r2 : Vals (V.ref (s.heap.objs.size + 1) :: (vs ++ dvs)) (Value.ref (s.heap.objs.size + 1) :: (us ++ ds)) := .cons rfl (r.append hd)
  have hl : (Value.ref (s.heap.objs.size + 1) :: us ++ ds).length = ps.length := by
    have e := r2.length
    rw [F.len _ _ _ _ hq] at e
    exact e.symm
  refine wpAny_call (make_map (f := f) I.kIn M.makes M.init (beq_iff_eq.mp M.fn) (codeAny_mono (F.run _ X.stack _ _ ⟨Value.ref (s.heap.objs.size + 1) :: us, []⟩ (Value.ref (s.heap.objs.size + 1) :: (us ++ ds)) _ _ E (hr.make C us [])
    (I2.env0.make C us []) (hb _ (Value.ref (s.heap.objs.size + 1) :: us) I2.kIn hl) r2 hq) fun r s' hq' => ?_))
  cases r with
  | error e => exact hx pins σ _ _ e s' I2 hq'
  | ok fl =>
    cases fl with
    | ret u =>
      obtain ⟨v, H', I3, rv, ev, q3⟩ := I2.after hq'
      subst ev
      exact ⟨rv, ⟨V.ref (s.heap.objs.size + 1), H', I3, rfl, q3⟩⟩
    | next => exact False.elim hq'
    | brk => exact False.elim hq'
    | cont => exact False.elim hq'
theorem pe_make (M : Mk X.K C f) (F : FnOk X.prog X.w X.K X.mg X.base CX k f fd ps sp) (hr : Room (k + 1) X.A) (hg : Gl X x) (hm : X.mg x = some (.ref C)) (hb : Binds X.K fd ps ds) (hd : Vals dvs ds) (hx : Passes CX X E)
    (ha : PA X (e :: es) t) (hdb : (x == ("__debug__" : Str)) = false := by decide) (he : starEach (e :: es) X.env = (false, eval e X.env) :: starEach es X.env := by rfl) (hpl : (backTo pos (starEach es X.env)).any (·.1) = false := by rfl) :
    PE X (.Call (.Name x p) (e :: es) [] pos) (tMake C sp dvs E t) := by
  intro pins s σ H Q I h
  refine wpAny_Call_Name_kw (ld_glob I hg hm ?_ hdb)
  refine PySem.W.callWith_K (h₀ := X.base) I.ok.mod.kin M.kp (thn (ha pos pins s σ H _ I h) fun us s1 ⟨vs, H1, I1, r, q⟩ => ⟨I1.kIn, ?_⟩) he hpl
  exact run_make M F hr hb hd hx I1 r q
end
def PK (X : Cx) (kws : List Keyword) (t : TA) : Prop :=
  ∀ (pos : Pos) (pins : List (Addr × Obj)) (s : Shared) (σ : St) (H : Hp) (Q : List V → Hp → Prop), Inv X pins σ H s → t σ H Q → wpAny (model X.prog X.w) X.A (evalAll ((backToKw pos (keywordEach kws X.env)).map (·.2))) (AP X pins σ Q) X.xe s
section
variable {X : Cx} {CX : CXT} {k : Nat} {f C : Addr} {fd : FuncData} {ps ks : List Str} {sp : Sp} {E : XK} {x m : Str} {p pos apos kpos : Pos} {e o : Expr} {es : List Expr} {kws : List Keyword} {te ta : TE} {t tk : TA} {nm : Option Str}
theorem pk_nil : PK X [] tNil := fun _ _ _ _ H Q I h => wpAny_evalAll_nil ⟨[], H, I, .nil, h⟩
theorem pk_cons (ha : PE X e te) (hr : PK X kws t) : PK X (⟨nm, e, kpos⟩ :: kws) (tCons te t) := by
  intro pos pins s σ H Q I h
  show wpAny _ _ (evalAll ((do let v ← eval e X.env; standAt pos; pure v) :: (backToKw pos (keywordEach kws X.env)).map (·.2))) _ _ s
  refine wpAny_evalAll_cons (wpAny_bind (thn (ha pins s σ H _ I h) fun u s1 ⟨x, H1, I1, r1, q1⟩ => wpAny_bind (wpAny_standAt (wpAny_pure ?_))))
  exact thn (hr pos pins s1 σ H1 _ I1 q1) fun us s2 ⟨xs, H2, I2, r2, q2⟩ => ⟨x :: xs, H2, I2, .cons r1 r2, q2⟩
variable {g : List Value → List Value → List Value} {gV : List V → List V → List V}
end
structure FnScope (N P : List Str) (sc : Scope) : Prop where
  kind : sc.kind = .function
  co : sc.isCoroutine = false
  gen : sc.isGenerator = false
  nd : N.Nodup
  pre : N.take P.length = P
  par : ∀ x ∈ P, sc.names.lookup x = some .local ∨ sc.names.lookup x = some .cell
  nofree : ∀ y ∈ sc.names, y.2 ≠ .free
theorem bindL_out {kindOf : Str → Option NameKind} {x : Str} : ∀ {binds : List (Str × Value)} {m : Str → Option Value}, (∀ v, (x, v) ∉ binds) → bindL kindOf binds m x = m x
  | [], _, _ => rfl
  | (n, v) :: r, m, h => by
    unfold bindL
    rw [bindL_out fun w hw => h w (List.mem_cons_of_mem _ hw)]
    split
    · have : x ≠ n := by rintro rfl; exact h v List.mem_cons_self
      simp [this]
    · rfl
theorem bindC_out {kindOf : Str → Option NameKind} {x : Str} : ∀ {binds : List (Str × Value)} {m : Str → Option Value}, (∀ v, (x, v) ∉ binds) → bindC kindOf binds m x = m x
  | [], _, _ => rfl
  | (n, v) :: r, m, h => by
    unfold bindC
    rw [bindC_out fun w hw => h w (List.mem_cons_of_mem _ hw)]
    split
    · rfl
    · have : x ≠ n := by rintro rfl; exact h v List.mem_cons_self
      simp [this]
theorem bindL_get {kindOf : Str → Option NameKind} {x : Str} {v : Value} : ∀ {P : List Str} {vs : List Value} {i : Nat} {m : Str → Option Value}, P.Nodup → P[i]? = some x → vs[i]? = some v → kindOf x = some .local →
    bindL kindOf (P.zip vs) m x = some v
  | [], _, _, _, _, h, _, _ => by simp at h
  | _ :: _, [], _, _, _, _, h, _ => by simp at h
  | p :: P, w :: vs, 0, m, nd, h1, h2, hk => by
    simp at h1 h2; subst h1; subst h2
    show bindL kindOf ((p, w) :: P.zip vs) m p = _
    unfold bindL
    rw [bindL_out fun v hv => (List.nodup_cons.mp nd).1 (List.of_mem_zip hv).1, if_pos hk]
    simp
  | p :: P, w :: vs, i + 1, m, nd, h1, h2, hk => by
    show bindL kindOf ((p, w) :: P.zip vs) m x = _
    unfold bindL
    exact bindL_get (i := i) (List.nodup_cons.mp nd).2 (by simpa using h1) (by simpa using h2) hk
theorem bindC_get {kindOf : Str → Option NameKind} {x : Str} {v : Value} : ∀ {P : List Str} {vs : List Value} {i : Nat} {m : Str → Option Value}, P.Nodup → P[i]? = some x → vs[i]? = some v → kindOf x ≠ some .local →
    bindC kindOf (P.zip vs) m x = some v
  | [], _, _, _, _, h, _, _ => by simp at h
  | _ :: _, [], _, _, _, _, h, _ => by simp at h
  | p :: P, w :: vs, 0, m, nd, h1, h2, hk => by
    simp at h1 h2; subst h1; subst h2
    show bindC kindOf ((p, w) :: P.zip vs) m p = _
    unfold bindC
    rw [bindC_out fun v hv => (List.nodup_cons.mp nd).1 (List.of_mem_zip hv).1, if_neg hk]
    simp
  | p :: P, w :: vs, i + 1, m, nd, h1, h2, hk => by
    show bindC kindOf ((p, w) :: P.zip vs) m x = _
    unfold bindC
    exact bindC_get (i := i) (List.nodup_cons.mp nd).2 (by simpa using h1) (by simpa using h2) hk
def start (N : List Str) (vs : List V) : St := vs.map some ++ List.replicate (N.length - vs.length) none
def cxOf (CX : CXT) (P : Program) (w : World) (K : PySem.W.Frag) (mg : Str → Option Value) (base : Heap) (N : List Str) (qual : Str) (scope : Scope) (f : Addr) (cd : Value) (A : Around) (outer : List Env) (s : Shared) (H : Hp) (E : XK) : Cx where
  prog := P
  w := w
  K := K
  mg := mg
  base := base
  A := A.deeper (envOfC qual scope s.heap.objs.size f cd)
  N := N
  s₀ := s
  H₀ := H
  env := envOfC qual scope s.heap.objs.size f cd
  outer := outer
  stack := envOfC qual scope s.heap.objs.size f cd :: outer
  ex := []
  calm := true
  fn := fun _ => true
  pn := []
  xe := fun e s' => wpAny (model P w) (A.deeper (envOfC qual scope s.heap.objs.size f cd)) (leaving (envOfC qual scope s.heap.objs.size f cd) e) (fun _ s'' => CX outer H s E e s'') (fun e' s'' => CX outer H s E e' s'') s'
theorem cell_has {sc : Scope} {n : Nat} {x : Str} (h : sc.names.lookup x = some .cell) : ∃ c, (cellsFrom n sc.names []).lookup x = some c := by
  have q := PySem.W.cellsFrom_some sc.names n [] (.inl h)
  exact Option.isSome_iff_exists.mp q
theorem inv_start {CX : CXT} {P : Program} {w : World} {K : PySem.W.Frag} {mg : Str → Option Value} {base : Heap} {N ps : List Str} {qual : Str} {scope : Scope} {f : Addr} {cd : Value} {A : Around} {outer : List Env} {s s1 : Shared} {H : Hp} {E : XK} {us : List Value} {vs : List V}
    (S : FnScope N ps scope) (hd : A.handled = none) (e0 : Env0 P w K mg base A outer s H) (hl : vs.length = ps.length) (r : Vals vs us)
    (x : InCallC s s.heap.objs.size (bindL (envOfC qual scope s.heap.objs.size f cd).kindOf (ps.zip us) fun _ => none) (cellsFrom (s.heap.objs.size + 1) scope.names []) (bindC (envOfC qual scope s.heap.objs.size f cd).kindOf (ps.zip us) fun _ => none) s1) :
    Inv (cxOf CX P w K mg base N qual scope f cd A outer s H E) [] (start N vs) H s1 := by
  have hpl : ps.length ≤ N.length := by have := congrArg List.length S.pre; rw [List.length_take] at this; omega
  obtain ⟨h1, tk, rfl, hk⟩ := x.done
  have noA : ∀ b : Addr, b ∉ (cxOf CX P w K mg base N qual scope f cd A outer s H E).ex := fun b z => absurd (show b ∈ ([] : List Addr) from z) (by simp)
  refine ⟨⟨e0.mod, S.kind, rfl, rfl, Nat.le_refl _, fun y z c h1 h2 => ?_, fun y hy => ?_, fun y c _ h => ?_, fun _ => hd, Around.frames_deeper e0.frames, .inr ⟨rfl, rfl⟩, fun b z => absurd z (noA b), e0.bs, e0.bsz, fun b _ _ => noA b, fun b z => absurd z (noA b), e0.funs, e0.frf⟩,
    rfl, e0.bare, Un.kept hk, ⟨_, x.toInCall.ns, fun i y v h1 h2 h3 => ?_⟩, fun y c h => ⟨_, x.cell y c h⟩, e0.hok.fresh (Nat.le_refl _), fun y c h => ?_, fun p hp => absurd (show p ∈ ([] : List (Addr × Obj)) from hp) (by simp), e0.hok.kept hk, ?_⟩
  · exact name_of_addr x.apart (PySem.mem_of_lookup h1) (PySem.mem_of_lookup h2)
  · have hy : scope.names.lookup y = some .cell ∨ scope.names.lookup y = some .free := hy
    rcases hy with hy | hy
    · exact cell_has hy
    · exact absurd rfl (S.nofree _ (PySem.mem_of_lookup hy))
  · exact Nat.le_of_lt (x.above y c (PySem.mem_of_lookup h))
  · have hi : i < vs.length := by
      unfold start at h2
      by_cases hi : i < vs.length
      · exact hi
      · rw [List.getElem?_append_right (by simpa using hi)] at h2
        rw [List.getElem?_replicate] at h2
        split at h2 <;> cases h2
    have ha : vs[i]? = some v := by
      unfold start at h2
      rw [List.getElem?_append_left (by simpa using hi), List.getElem?_map] at h2
      cases e : vs[i]? with
      | none => rw [e] at h2; cases h2
      | some a => rw [e] at h2; cases h2; rfl
    obtain ⟨u, hu, rv⟩ := r.get ha
    have hp : ps[i]? = some y := by
      rw [← S.pre, List.getElem?_take_of_lt (by omega)]; exact h1
    have ndP : ps.Nodup := by rw [← S.pre]; exact S.nd.sublist (List.take_sublist _ _)
    refine ⟨u, rv, ?_⟩
    rcases S.par y (List.mem_of_getElem? hp) with k | k
    · exact .inl ⟨k, bindL_get ndP hp hu k⟩
    · obtain ⟨c, e⟩ := cell_has (n := s.heap.objs.size + 1) k
      refine .inr ⟨.inl k, c, e, ?_⟩
      have q := x.cell y c e
      rw [bindC_get ndP hp hu (by show scope.names.lookup y ≠ _; rw [k]; decide)] at q
      exact q
  · exact e0.hok.fresh (Nat.le_of_lt (x.above y c (PySem.mem_of_lookup h)))
  · unfold start
    show _ = N.length
    rw [List.length_append, List.length_map, List.length_replicate]
    omega
theorem fn_of {CX : CXT} {P : Program} {w : World} {K : PySem.W.Frag} {mg : Str → Option Value} {base : Heap} {k : Nat} {f : Addr} {name qual : Str} {params : Arguments} {body : List Stmt} {scope : Scope} {dV kV doc pm cdv ct oc : Value} {an od : Option Addr}
    {osl : Array (Option Value)} {N ps : List Str} {sp : Sp} (lk : K.lookup f = some ⟨oc, od, .func (PySem.W.fnOf name qual params body scope dV kV doc pm an cdv ct), osl⟩) (hcd : PySem.W.codeIn K cdv qual = true) (S : FnScope N ps scope)
    (len : ∀ vs H Q E, sp vs H Q E → vs.length = ps.length)
    (hbody : ∀ (A : Around) (outer : List Env) (s : Shared) (H : Hp) (vs : List V) (Q : VK) (E : XK), Room k (A.deeper (envOfC qual scope s.heap.objs.size f cdv)) → sp vs H Q E →
      ∃ t, PSs (cxOf CX P w K mg base N qual scope f cdv A outer s H E) body t ∧ t { nx := fun _ H' => Q .non H', rt := Q } (start N vs) H) :
    FnOk P w K mg base CX (k + 1) f (PySem.W.fnOf name qual params body scope dV kV doc pm an cdv ct) ps sp := by
  refine ⟨len, fun A outer s H args us vs Q E hr e0 hb r hsp => ?_⟩
  have hl := len _ _ _ _ hsp
  have KX : K.In s.heap := e0.mod.kin.keeps fun b o e => (e0.bs b o e).1
  have lim : s.heap.NoLimit := e0.mod.nolimit.keeps fun b o e => (e0.bs b o e).1
  have hkind : ∀ y ∈ ps.zip us, scope.names.lookup y.1 = some .local ∨ (scope.names.lookup y.1 = some .cell ∧ ((cellsFrom (s.heap.objs.size + 1) scope.names []).lookup y.1).isSome = true) := fun ⟨n, v⟩ hy => by
    rcases S.par n (List.of_mem_zip hy).1 with q | q
    · exact .inl q
    · exact .inr ⟨q, PySem.W.cellsFrom_some _ _ _ (.inl q)⟩
  refine codeAny_call_function hr.depth (KX _ _ lk) rfl S.co S.gen rfl (PySem.W.codeRec_of KX hcd) (hb _ _ _ _ ?_)
  refine wpAny_newFunctionEnv_cells S.kind hkind fun env he s1 x => ?_
  subst he
  refine ⟨lim.keeps x.toInCall.keep, codeAny_func ?_⟩
  obtain ⟨t, ht, hq⟩ := hbody A outer s H vs Q E (hr.deeper _) hsp
  have I : Inv (cxOf CX P w K mg base N qual scope f cdv A outer s H E) [] (start N vs) H s1 := inv_start S hr.hd e0 hl r x
  refine wpAny_mono (ht [] s1 (start N vs) H _ I hq) (fun fl s' hs => ?_) fun e s' hs => hs
  have fin : ∀ {σ' : St} {H' : Hp} {v : V} {u : Value}, Inv (cxOf CX P w K mg base N qual scope f cdv A outer s H E) [] σ' H' s' → RelV v u → Q v H' → CE outer P w H s Q u s' :=
    fun {σ' H' v u} J rv q => ⟨v, H', J.os, J.bare, J.base, J.hok, rv, q⟩
  cases fl with
  | ret u =>
    obtain ⟨v, σ', H', J, rv, q⟩ := hs
    exact fin J rv q
  | next =>
    obtain ⟨σ', H', J, q⟩ := hs
    exact fin (v := V.non) (u := Value.none) J rfl q
  | brk =>
    obtain ⟨_, _, _, q⟩ := hs
    exact False.elim q
  | cont =>
    obtain ⟨_, _, _, q⟩ := hs
    exact False.elim q
end L2
namespace L2
open PySem PySem.Spec PyProof.Rows
section
variable {X : Cx} {x : Str} {p pos : Pos} {e : Expr} {es : List Expr} {t : TA} {id T : String} {r : List V → Hp → VK → Prop}
def tCB (r : List V → Hp → VK → Prop) (t : TA) : TE := fun σ H Q => t σ H fun vs H1 => r vs H1 Q
theorem pe_callB (hc : CallR X (.builtin id) r) (hg : Gl X x) (hm : X.mg x = none) (hv : bootBuiltins x = some (.builtin id)) (ha : PA X (e :: es) t) (hn : x ≠ "__name__" := by decide) (hdb : (x == ("__debug__" : Str)) = false := by decide)
    (he : starEach (e :: es) X.env = (false, eval e X.env) :: starEach es X.env := by rfl) (hpl : (backTo pos (starEach es X.env)).any (·.1) = false := by rfl) : PE X (.Call (.Name x p) (e :: es) [] pos) (tCB r t) := by
  intro pins s σ H Q I h
  refine wpAny_Call_Name_kw (ld_blt I hg hm hv ?_ hn hdb)
  exact PyProof.Rows.callWith_builtin1 (thn (ha pos pins s σ H _ I h) fun us s1 ⟨vs, H1, I1, r1, q1⟩ => hc pins s1 σ H1 vs us Q I1 r1 q1) he hpl
theorem pe_callTy (hc : CallR X (.type T) r) (hg : Gl X x) (hm : X.mg x = none) (hv : bootBuiltins x = some (.type T)) (ha : PA X (e :: es) t) (hn : x ≠ "__name__" := by decide) (hdb : (x == ("__debug__" : Str)) = false := by decide)
    (he : starEach (e :: es) X.env = (false, eval e X.env) :: starEach es X.env := by rfl) (hpl : (backTo pos (starEach es X.env)).any (·.1) = false := by rfl) : PE X (.Call (.Name x p) (e :: es) [] pos) (tCB r t) := by
  intro pins s σ H Q I h
  refine wpAny_Call_Name_kw (ld_blt I hg hm hv ?_ hn hdb)
  exact PyProof.Rows.callWith_type1 (thn (ha pos pins s σ H _ I h) fun us s1 ⟨vs, H1, I1, r1, q1⟩ => hc pins s1 σ H1 vs us Q I1 r1 q1) he hpl
end
end L2
namespace HT
open PySem PyProof.Rows
section
open PySem.SeqAt
open PySem.AutoSeq1 (wpAny_loadPart')
open PySem.MeetsSeq PySem.MeetsSeq2 PySem.MeetsSeq3
end
section
variable {prog : Program} {w : World} {A : Around} {E : Value → Shared → Prop} {s : Shared}
theorem cat_tup {t b : Addr} {vs ws : List Value} {Q : Value → Shared → Prop} (ht : IsTup s.heap t vs.toArray) (hb : IsTup s.heap b ws.toArray) (hv : vs ≠ [])
    (h1 : ws = [] → Q (.ref t) s) (h2 : ws ≠ [] → Q (.ref s.heap.objs.size) { s with heap := s.heap.push { cls := .type "tuple", data := .seq (vs ++ ws).toArray } })
    (hsz : vs.length + ws.length ≤ sizeLine) : wpAny (model prog w) A (binaryOp .Add (.ref t) (.ref b)) Q E s := by
  obtain ⟨⟨cls, dd, data, sl⟩, ho, hc, n, hd⟩ := id ht
  obtain ⟨⟨cls2, dd2, data2, sl2⟩, ho2, hc2, n2, hd2⟩ := id hb
  simp only at hc hd hc2 hd2
  subst hc hd hc2 hd2
  have e : vs.toArray ++ ws.toArray = (vs ++ ws).toArray := by simp
  by_cases hw : ws = []
  · exact concat_meets ⟨_, ho, rfl⟩ ⟨_, ho2, rfl⟩ noFill_tuple_add seq_tuple_add PySem.F.slot_tuple_add PySem.F.entry_tuple_add (PySem.F.args_tuple_add_2 _ _)
      (tuple_addW1 t b vs.toArray ws.toArray n n2 dd dd2 sl sl2 (by simpa using hv) (by simp [hw])) ⟨ho, ho2, h1 hw⟩
  · refine concat_meets ⟨_, ho, rfl⟩ ⟨_, ho2, rfl⟩ noFill_tuple_add seq_tuple_add PySem.F.slot_tuple_add PySem.F.entry_tuple_add (PySem.F.args_tuple_add_2 _ _)
      (tuple_addW2 t b vs.toArray ws.toArray n n2 dd dd2 sl sl2 (by simpa using hv) (by simpa using hw) (by rw [List.size_toArray, List.size_toArray]; exact hsz)) ⟨ho, ho2, ?_⟩
    rw [e]
    exact h2 hw
def sIx (n d : Nat) : Option Int → Nat
  | none => d
  | some v => if v < 0 then (v + (n : Int)).toNat else min v.toNat n
theorem sIx_le (n d : Nat) (hd : d ≤ n) (o : Option Int) : sIx n d o ≤ n := by
  cases o with
  | none => exact hd
  | some v =>
    show (if v < 0 then (v + (n : Int)).toNat else min v.toNat n) ≤ n
    by_cases hv : v < 0
    · rw [if_pos hv]; omega
    · rw [if_neg hv]; exact Nat.min_le_right _ _
theorem clip_eq (v : Int) (n d : Nat) : (if v < 0 then max (v + (n : Int)) 0 else min v (n : Int)) = ((sIx n d (some v) : Nat) : Int) := by
  show (if v < 0 then max (v + (n : Int)) 0 else min v (n : Int)) = (((if v < 0 then (v + (n : Int)).toNat else min v.toNat n) : Nat) : Int)
  by_cases hv : v < 0
  · simp only [if_pos hv]; omega
  · simp only [if_neg hv]; omega
theorem adjust_gen (lo hi : Option Int) (n : Nat) : Builtin.Slice.sliceAdjust lo hi 1 (n : Int) = (((sIx n 0 lo : Nat) : Int), ((sIx n n hi : Nat) : Int)) := by
  have h1 : ¬ ((1 : Int) < 0) := by omega
  unfold Builtin.Slice.sliceAdjust
  simp only [h1, if_false]
  refine Prod.ext ?_ ?_
  · cases lo with
    | none => rfl
    | some v => exact clip_eq v n 0
  · cases hi with
    | none => rfl
    | some v => exact clip_eq v n n
theorem places_gen (i j : Nat) : Builtin.Slice.slicePlaces (i : Int) (j : Int) 1 = j - i := by
  unfold Builtin.Slice.slicePlaces
  have h1 : (1 : Int) > 0 := by omega
  simp only [h1, if_true, Int.ediv_one]
  split <;> omega
theorem slicePart_ {v : Value} {o : Option Int} {Q : Option Int → Shared → Prop} (p : IsPart v o) (h : Q o s) : wpAny (model prog w) A (Builtin.Slice.slicePartIndex v) Q E s := by
  cases p with
  | none => exact slicePart_none h
  | int i t => exact slicePart_int h
theorem sliceApplied_gen {sl : Addr} {vl vu : Value} {lo hi : Option Int} {n : Nat} {Q : Int × Int × Nat → Shared → Prop} (hs : s.heap.IsSliceOf sl vl vu .none) (pl : IsPart vl lo) (pu : IsPart vu hi)
    (h : Q (((sIx n 0 lo : Nat) : Int), 1, sIx n n hi - sIx n 0 lo) s) : wpAny (model prog w) A (Builtin.Slice.sliceApplied (.ref sl) (pure (n : Int))) Q E s := by
  obtain ⟨os, hos, hcs, hds⟩ := id hs
  unfold Builtin.Slice.sliceApplied Builtin.Slice.sliceFields
  refine wpAny_bind (wpAny_bind (wpAny_field hos hds (x := vl) rfl (wpAny_bind (wpAny_field hos hds (x := vu) rfl (wpAny_bind (wpAny_field hos hds (x := .none) rfl (wpAny_pure ?_)))))))
  refine wpAny_bind (slicePart_none ?_)
  show wpAny _ _ (if ((1 : Int) == 0) = true then _ else _) _ _ s
  rw [if_neg (by decide)]
  refine wpAny_bind (slicePart_ pl (wpAny_bind (slicePart_ pu (wpAny_bind (wpAny_pure ?_)))))
  show wpAny _ _ (match Builtin.Slice.sliceAdjust lo hi 1 (n : Int) with | (lo, hi) => pure (lo, (1 : Int), Builtin.Slice.slicePlaces lo hi 1)) _ _ s
  rw [adjust_gen lo hi n]
  show wpAny _ _ (pure (((sIx n 0 lo : Nat) : Int), (1 : Int), Builtin.Slice.slicePlaces ((sIx n 0 lo : Nat) : Int) ((sIx n n hi : Nat) : Int) 1)) _ _ s
  rw [places_gen]
  exact wpAny_pure h
theorem pick_gen (xs : Array Value) (i k : Nat) : ((List.range k).filterMap fun (m : Nat) => xs[((i : Int) + (m : Int) * 1).toNat]?).toArray = ((xs.toList.drop i).take k).toArray := by
  have e : (fun (m : Nat) => xs[((i : Int) + (m : Int) * 1).toNat]?) = fun m => xs[i + m]? := by
    funext m
    have : ((i : Int) + (m : Int) * 1).toNat = i + m := by omega
    rw [this]
  rw [e]
  have := pick_run xs i k
  rw [List.filterMap_map] at this
  have e2 : ((fun x => xs[x]?) ∘ fun x => i + x) = fun m => xs[i + m]? := rfl
  rw [e2] at this
  rw [this]
theorem getItem_tuple_cut {t sl : Addr} {items : Array Value} {vl vu : Value} {lo hi : Option Int} {Q : Value → Shared → Prop} (ht : IsTup s.heap t items) (hs : s.heap.IsSliceOf sl vl vu .none) (pl : IsPart vl lo) (pu : IsPart vu hi)
    (hw : ¬ (sIx items.size 0 lo = 0 ∧ sIx items.size items.size hi = items.size))
    (h : Q (.ref s.heap.objs.size) { s with heap := s.heap.push { cls := .type "tuple", data := .seq ((items.toList.drop (sIx items.size 0 lo)).take (sIx items.size items.size hi - sIx items.size 0 lo)).toArray } })
    (hsz : items.size ≤ sizeLine) : wpAny (model prog w) A (getItem (.ref t) (.ref sl)) Q E s := by
  have htake : sizeOk (.seq ((items.toList.drop (sIx items.size 0 lo)).take (sIx items.size items.size hi - sIx items.size 0 lo)).toArray) := by
    show ((items.toList.drop (sIx items.size 0 lo)).take (sIx items.size items.size hi - sIx items.size 0 lo)).toArray.size ≤ sizeLine
    rw [List.size_toArray, List.length_take, List.length_drop, Array.length_toList]
    omega
  have hj : sIx items.size items.size hi ≤ items.size := sIx_le _ _ (Nat.le_refl _) hi
  obtain ⟨os, hos, hcs, hds⟩ := id hs
  have hTs : s.TypeIs (.ref sl) "slice" := ⟨os, hos, hcs⟩
  unfold getItem
  try with_reducible refine wpAny_holding ?_
  first | refine wpAny_bind (wpAny_pure ?_) | skip
  refine wpAny_bind (wpAny_sequenceKey ht.typeIs (by decide) ?_)
  refine wpAny_bind (wpAny_callSpecial?_slot (name := Str.ofString "__getitem__") ht.typeIs PyProof.Rows.slot_tuple_getitem
    (wpAny_call_entry PyProof.Rows.slot_tuple_getitem ht.typeIs entry_tuple_getitem ?_ (args_tuple_getitem _ _)))
  show wpAny _ _ (Builtin.Tuple.tupleItemsOf (.ref t) >>= _) _ _ s
  refine wpAny_bind (tupleItemsOf_ ht ?_)
  refine wpAny_bind (wpAny_typeOf hTs ?_)
  rw [if_pos (by decide)]
  refine wpAny_bind (sliceApplied_gen hs pl pu ?_)
  have hno : ¬ ((((sIx items.size 0 lo : Nat) : Int) == 0 && (1 : Int) == 1 && (sIx items.size items.size hi - sIx items.size 0 lo) == items.size) = true) := by
    intro q
    rw [Bool.and_eq_true, Bool.and_eq_true] at q
    have q1 : ((sIx items.size 0 lo : Nat) : Int) = 0 := eq_of_beq q.1.1
    have q2 : sIx items.size items.size hi - sIx items.size 0 lo = items.size := eq_of_beq q.2
    exact hw ⟨by omega, by omega⟩
  show wpAny _ _ (if (((sIx items.size 0 lo : Nat) : Int) == 0 && (1 : Int) == 1 && (sIx items.size items.size hi - sIx items.size 0 lo) == items.size) = true then _ else _) _ _ s
  rw [if_neg hno, pick_gen]
  first
    | exact wpAny_bind (m := Builtin.Tuple.tupleExact _) (wpAny_newObj_type (wpAny_pure ⟨_, rfl, wpAny_pure h⟩) htake)
    | exact wpAny_bind (m := Builtin.Tuple.tupleExact _) (wpAny_newObj_type (wpAny_bind (wpAny_pure (wpAny_pure ⟨_, rfl, wpAny_pure h⟩))) htake)
    | exact wpAny_bind (wpAny_bind (m := Builtin.Tuple.tupleExact _) (wpAny_newObj_type (wpAny_pure (wpAny_pure ⟨_, rfl, wpAny_pure h⟩)) htake))
    | exact wpAny_bind (wpAny_bind (m := Builtin.Tuple.tupleExact _) (wpAny_newObj_type (wpAny_pure ⟨_, rfl, wpAny_pure h⟩) htake))
end
end HT
namespace L2
open PySem PySem.Spec PyProof.Rows
abbrev TO := St → Hp → (Option Int → Hp → Prop) → Prop
def PO (X : Cx) (e : Option Expr) (t : TO) : Prop :=
  ∀ (pins : List (Addr × Obj)) (s : Shared) (σ : St) (H : Hp) (Q : Option Int → Hp → Prop), Inv X pins σ H s → t σ H Q →
    wpAny (model X.prog X.w) X.A (evalPart e X.env) (fun u s' => ∃ o H', Inv X pins σ H' s' ∧ IsPart u o ∧ Q o H') X.xe s
def tNoPart : TO := fun _ H Q => Q none H
def tPart (t : TE) : TO := fun σ H Q => t σ H fun x H1 => ∃ i, x = .int i ∧ Q (some i) H1
section
variable {X : Cx} {e : Expr} {te : TE} {lo hi : Option Expr} {tl th : TO} {pos p2 : Pos}
theorem po_none : PO X none tNoPart := by
  intro pins s σ H Q I h
  rw [evalPart_none]
  exact wpAny_pure ⟨none, H, I, .none, h⟩
theorem po_some (h : PE X e te) : PO X (some e) (tPart te) := by
  intro pins s σ H Q I hw
  rw [evalPart_some]
  refine thn (h pins s σ H _ I hw) fun u s1 ⟨x, H1, I1, r1, q1⟩ => ?_
  obtain ⟨i, rfl, q⟩ := q1
  obtain ⟨t, rfl⟩ := r1
  exact ⟨some i, H1, I1, .int i t, q⟩
def SlR (X : Cx) (r : V → Option Int → Option Int → Hp → VK → Prop) : Prop :=
  ∀ (pins : List (Addr × Obj)) (s : Shared) (σ : St) (H : Hp) (x : V) (v vl vu : Value) (lo hi : Option Int) (sl : Addr) (Q : VK), Inv X pins σ H s → RelV x v → s.heap.IsSliceOf sl vl vu .none → IsPart vl lo → IsPart vu hi → r x lo hi H Q →
    ∃ T id, typeLookup (.type T) "__getitem__" = pure (some (.builtin id)) ∧ s.TypeIs v T ∧ wpAny (model X.prog X.w) X.A (getItem v (.ref sl)) (EP X pins σ Q) X.xe s
def tSl (r : V → Option Int → Option Int → Hp → VK → Prop) (te : TE) (tl th : TO) : TE := fun σ H Q => te σ H fun x H1 => tl σ H1 fun l H2 => th σ H2 fun u H3 => r x l u H3 Q
theorem pe_slice {r : V → Option Int → Option Int → Hp → VK → Prop} (hr : SlR X r) (he : PE X e te) (hl : PO X lo tl) (hu : PO X hi th) : PE X (.Subscript e (.Slice lo hi none p2) pos) (tSl r te tl th) := by
  intro pins s σ H Q I h
  refine Subscript_ (thn (he pins s σ H _ I h) fun v s1 ⟨x, H1, I1, r1, q1⟩ => ?_)
  refine wpAny_Slice (thn (hl pins s1 σ H1 _ I1 q1) fun vl s2 ⟨l, H2, I2, pl, q2⟩ => thn (hu pins s2 σ H2 _ I2 q2) fun vu s3 ⟨u, H3, I3, pu, q3⟩ => ?_)
  rw [evalPart_none]
  refine wpAny_pure ?_
  have I4 : Inv X pins σ H3 { s3 with heap := s3.heap.push { cls := .type "slice", data := .fields #[vl, vu, .none] } } := I3.kept (t' := s3.toks) fun b ob q => Heap.get?_push_of_some _ q
  obtain ⟨T, id, hT, ht, hg⟩ := hr pins { s3 with heap := s3.heap.push { cls := .type "slice", data := .fields #[vl, vu, .none] } } σ H3 x v vl vu l u s3.heap.objs.size Q I4 r1 (Heap.IsSliceOf.new ..) pl pu q3
  show wpAny (model X.prog X.w) X.A (subscriptTail e (.Slice lo hi none p2) v (.ref s3.heap.objs.size)) (EP X pins σ Q) X.xe { s3 with heap := s3.heap.push { cls := .type "slice", data := .fields #[vl, vu, .none] } }
  exact tail_any (ops := [.ref s3.heap.objs.size, v]) ht hT hg (by with_unfolding_all rfl)
def cutV (xs : List V) (lo hi : Option Int) : List V := (xs.drop (HT.sIx xs.length 0 lo)).take (HT.sIx xs.length xs.length hi - HT.sIx xs.length 0 lo)
theorem cutV_length (xs : List V) (lo hi : Option Int) : (cutV xs lo hi).length ≤ xs.length := by
  unfold cutV
  rw [List.length_take, List.length_drop]
  omega
def rSlT (K : PySem.W.Frag) : V → Option Int → Option Int → Hp → VK → Prop := fun x lo hi H Q => ∃ a xs, x = .ref a ∧ SqT K H a xs ∧
  ¬ (HT.sIx xs.length 0 lo = 0 ∧ HT.sIx xs.length xs.length hi = xs.length) ∧ ∀ p, H p = none → Q (.ref p) (upd H p (.tup (cutV xs lo hi)))
theorem sl_tup : SlR X (rSlT X.K) := by
  intro pins s σ H x v vl vu lo hi sl Q I rx hs pl pu h
  obtain ⟨a, xs, rfl, hx, hw, q⟩ := h
  cases rx
  obtain ⟨its, r, ht, hz⟩ := I.tuple hx
  have hlen : its.toArray.size = xs.length := by rw [List.size_toArray]; exact r.length.symm
  refine ⟨"tuple", _, PyProof.Rows.slot_tuple_getitem.lookup, ht.typeIs, ?_⟩
  refine HT.getItem_tuple_cut ht hs pl pu (by rw [hlen]; exact hw) ?_ (by rw [hlen]; exact hz)
  rw [hlen]
  refine ⟨.ref s.heap.objs.size, _, I.laid (t' := s.toks) (o := .tup (cutV xs lo hi)) (fun b ob q => Heap.get?_push_of_some _ q) (Nat.le_refl _) ?_, rfl, q _ (I.hok.fresh (Nat.le_refl _))⟩
  exact ⟨Nat.le_trans (cutV_length xs lo hi) hz, _, (r.drop (HT.sIx xs.length 0 lo)).take (HT.sIx xs.length xs.length hi - HT.sIx xs.length 0 lo), IsTup.new _ _⟩
def rCatT (K : PySem.W.Frag) : R2 := fun x y H Q => ∃ a b xs ys, x = .ref a ∧ y = .ref b ∧ SqT K H a xs ∧ SqT K H b ys ∧ xs ≠ [] ∧ xs.length + ys.length ≤ sizeLine ∧
  (ys = [] → Q (.ref a) H) ∧ (ys ≠ [] → ∀ p, H p = none → Q (.ref p) (upd H p (.tup (xs ++ ys))))
theorem Vals.nil_iff {xs : List V} {us : List Value} (r : Vals xs us) : us = [] ↔ xs = [] := by
  cases r with
  | nil => simp
  | cons _ _ => simp
theorem op_catT : OpR X (binaryOp .Add) (rCatT X.K) := by
  intro pins s σ H x y v u Q I rx ry h
  obtain ⟨a, b, xs, ys, rfl, rfl, ha, hb, hx, hz, q1, q2⟩ := h
  cases rx
  cases ry
  obtain ⟨its, r1, p1, _⟩ := I.tuple ha
  obtain ⟨its2, r2, p2, _⟩ := I.tuple hb
  refine HT.cat_tup p1 p2 (fun z => hx (r1.nil_iff.mp z)) (fun z => ⟨.ref a, H, I, rfl, q1 (r2.nil_iff.mp z)⟩) (fun z => ?_) (by rw [← r1.length, ← r2.length]; exact hz)
  refine ⟨.ref s.heap.objs.size, _, I.laid (t' := s.toks) (o := .tup (xs ++ ys)) (fun b ob q => Heap.get?_push_of_some _ q) (Nat.le_refl _) ?_, rfl, q2 (fun w => z (r2.nil_iff.mpr w)) _ (I.hok.fresh (Nat.le_refl _))⟩
  exact ⟨by rw [List.length_append]; exact hz, _, r1.append r2, IsTup.new _ _⟩
end
end L2
namespace L2
open PySem PySem.Spec PyProof.Rows
def ixN (n : Nat) (i : Int) : Option Nat := if 0 ≤ i then (if i < n then some i.toNat else none) else if -(n : Int) ≤ i then some (i + n).toNat else none
def atI {α : Type} (xs : List α) (i : Int) : Option α := (ixN xs.length i).bind fun j => xs[j]?
theorem ixN_seq {n : Nat} {i : Int} {j : Nat} (h : ixN n i = some j) : seqIndex? i n = some j ∧ j < n ∧ -(n : Int) ≤ i ∧ i < n := by
  unfold ixN at h
  by_cases h0 : 0 ≤ i
  · rw [if_pos h0] at h
    by_cases h1 : i < n
    · rw [if_pos h1] at h
      have e : i.toNat = j := Option.some.inj h
      exact ⟨by rw [seqIndex_of h0 h1, e], by omega, by omega, h1⟩
    · rw [if_neg h1] at h; cases h
  · rw [if_neg h0] at h
    by_cases h1 : -(n : Int) ≤ i
    · rw [if_pos h1] at h
      have e : (i + n).toNat = j := Option.some.inj h
      exact ⟨by rw [seqIndex_neg (by omega) h1, e], by omega, h1, by omega⟩
    · rw [if_neg h1] at h; cases h
theorem atI_get {α : Type} {xs : List α} {i : Int} {v : α} (h : atI xs i = some v) : ∃ j, seqIndex? i xs.length = some j ∧ xs[j]? = some v ∧ j < xs.length ∧ -(xs.length : Int) ≤ i ∧ i < xs.length := by
  unfold atI at h
  cases e : ixN xs.length i with
  | none => rw [e] at h; cases h
  | some j =>
    rw [e] at h
    obtain ⟨h1, h2, h3, h4⟩ := ixN_seq e
    exact ⟨j, h1, h, h2, h3, h4⟩
theorem atI_nat {α : Type} {xs : List α} {j : Nat} {v : α} (h : xs[j]? = some v) : atI xs (j : Int) = some v := by
  have hj : j < xs.length := (List.getElem?_eq_some_iff.mp h).1
  have e : ixN xs.length (j : Int) = some j := by
    unfold ixN
    rw [if_pos (by omega), if_pos (by omega)]; simp
  unfold atI; rw [e]; exact h
theorem atI_last {α : Type} (xs : List α) (v : α) : atI (xs ++ [v]) (-1) = some v := by
  have hl : (xs ++ [v]).length = xs.length + 1 := by simp
  have e : ixN (xs ++ [v]).length (-1) = some xs.length := by
    unfold ixN
    rw [hl, if_neg (by decide), if_pos (by omega)]
    congr 1
    omega
  unfold atI
  rw [e]
  show (xs ++ [v])[xs.length]? = some v
  simp
def PlainIx (b : Expr) : Prop := ∀ o i, subscripted b false o i = operate [o, i] (getItem o i)
def IxR (X : Cx) (r : R2) : Prop :=
  ∀ (value slice : Expr) (pins : List (Addr × Obj)) (s : Shared) (σ : St) (H : Hp) (x y : V) (v u : Value) (Q : VK), Inv X pins σ H s → RelV x v → RelV y u → r x y H Q →
    subscripted slice false v u = operate [v, u] (getItem v u) → wpAny (model X.prog X.w) X.A (subscriptTail value slice v u) (EP X pins σ Q) X.xe s
def MtR (X : Cx) (id : String) (r : V → List V → Hp → VK → Prop) : Prop :=
  ∀ (pins : List (Addr × Obj)) (s : Shared) (σ : St) (H : Hp) (x : V) (xs : List V) (v : Value) (us : List Value) (Q : VK), Inv X pins σ H s → RelV x v → Vals xs us → r x xs H Q →
    wpAny (model X.prog X.w) X.A (call (.builtin id) (v :: us)) (EP X pins σ Q) X.xe s
section
variable {X : Cx} {a b : Expr} {ta tb : TE} {pos : Pos}
theorem pe_ix {r : R2} (hr : IxR X r) (ha : PE X a ta) (hb : PE X b tb) (hs : PlainIx b) : PE X (.Subscript a b pos) (tOp r ta tb) := by
  intro pins s σ H Q I h
  exact Subscript_ (binT ha hb I h fun v u s2 x y H2 I2 rx ry q => hr a b pins s2 σ H2 x y v u Q I2 rx ry q (hs _ _))
def rIxL (K : PySem.W.Frag) : R2 := fun x y H Q => ∃ p xs i v, x = .ref p ∧ y = .int i ∧ SqL K H p xs ∧ atI xs i = some v ∧ Q v H
def rIxT (K : PySem.W.Frag) : R2 := fun x y H Q => ∃ p xs i v, x = .ref p ∧ y = .int i ∧ SqT K H p xs ∧ atI xs i = some v ∧ Q v H
def rIxS : R2 := fun x y H Q => ∃ z i c, x = .str z ∧ y = .int i ∧ z.length ≤ sizeLine ∧ atI z.cps.toList i = some c ∧ Q (.str ⟨#[c]⟩) H
theorem ix_list : IxR X (rIxL X.K) := by
  intro value slice pins s σ H x y v u Q I rx ry h hs
  obtain ⟨p, xs, i, z, rfl, rfl, hq, he, q⟩ := h
  cases rx
  obtain ⟨t, rfl⟩ := ry
  obtain ⟨its, r, pl, hz⟩ := I.list hq
  obtain ⟨j, h1, h2, h3, h4, h5⟩ := atI_get he
  obtain ⟨w, ew, rw'⟩ := r.get h2
  have hl := r.length
  have hn := line63
  have fin : EP X pins σ Q w s := ⟨z, H, I, rw', q⟩
  by_cases h0 : 0 ≤ i
  · have hj : i.toNat = j := by
      rw [seqIndex_of h0 h5] at h1
      exact Option.some.inj h1
    exact item_listR pl.isList h0 (by omega) (by rw [hj]; simpa using ew) fin hs
  · have hj : (i + (its.toArray.size : Int)).toNat = j := by
      rw [seqIndex_neg (by omega) h4] at h1
      rw [List.size_toArray, ← hl]
      exact Option.some.inj h1
    exact subscriptTail_builtinR (x := w) pl.isList.typeIs slot_list_getitem.lookup
      (wpAny_getItem_list_neg (Q := fun r s' => r = w ∧ EP X pins σ Q r s') pl.isList (by omega) (by rw [List.size_toArray] <;> omega) (by omega) (by rw [hj]; simpa using ew) ⟨rfl, fin⟩) hs
theorem ix_tup : IxR X (rIxT X.K) := by
  intro value slice pins s σ H x y v u Q I rx ry h hs
  obtain ⟨p, xs, i, z, rfl, rfl, hq, he, q⟩ := h
  cases rx
  obtain ⟨t, rfl⟩ := ry
  obtain ⟨its, r, pl, hz⟩ := I.tuple hq
  obtain ⟨j, h1, h2, h3, h4, h5⟩ := atI_get he
  obtain ⟨w, ew, rw'⟩ := r.get h2
  have hl := r.length
  have hn := line63
  have fin : EP X pins σ Q w s := ⟨z, H, I, rw', q⟩
  exact subscriptTail_builtinR (x := w) pl.typeIs slot_tuple_getitem.lookup
    (getItem_tuple (j := j) (Q := fun r s' => r = w ∧ EP X pins σ Q r s') pl (by omega) (by omega) (by rw [List.size_toArray, ← hl]; exact h1) (by simpa using ew) ⟨rfl, fin⟩) hs
theorem ix_str : IxR X rIxS := by
  intro value slice pins s σ H x y v u Q I rx ry h hs
  obtain ⟨z, i, c, rfl, rfl, hz, he, q⟩ := h
  obtain ⟨t, rfl⟩ := rx
  obtain ⟨t', rfl⟩ := ry
  obtain ⟨j, h1, h2, h3, h4, h5⟩ := atI_get he
  have hl : z.cps.toList.length = z.length := by simp [Str.length]
  rw [hl] at h1 h4 h5
  have hn := line63
  exact tail_any (typeIs_str s z t) slot_str_getitem.lookup (getItem_str (c := c) (by
    have e1 : decide (i < -(2 ^ 63 : Int)) = false := decide_eq_false (by omega)
    have e2 : decide (i ≥ 2 ^ 63) = false := decide_eq_false (by omega)
    rw [e1, e2, Bool.or_false]) (by rw [h1]; simpa using h2) ⟨.str ⟨#[c]⟩, H, I.tok _, ⟨_, rfl⟩, q⟩) hs
theorem mapSeq_set (its : List Value) (n j : Nat) (u : Value) : Obj.mapSeq (·.setIfInBounds j u) { cls := .type "list", data := .seq its.toArray n } = { cls := .type "list", data := .seq (its.set j u).toArray n } := by
  simp [Obj.mapSeq]
theorem Inv.lst {pins : List (Addr × Obj)} {σ : St} {H : Hp} {s : Shared} {p : Addr} {xs : List V} (I : Inv X pins σ H s) (h : H p = some (.lst xs)) :
    ∃ (its : List Value) (n : Nat), Vals xs its ∧ s.heap.get? p = some { cls := .type "list", data := .seq its.toArray n } ∧ xs.length ≤ sizeLine := by
  obtain ⟨z, its, n, r, e⟩ := I.hok p _ h
  exact ⟨its, n, r, e, z⟩
theorem Inv.lstUpd {pins : List (Addr × Obj)} {σ : St} {H : Hp} {s : Shared} {p : Addr} {xs ys : List V} {its its' : List Value} {n n' : Nat} {f : Obj → Obj} (I : Inv X pins σ H s) (h : H p = some (.lst xs))
    (ho : s.heap.get? p = some { cls := .type "list", data := .seq its.toArray n }) (hf : f { cls := .type "list", data := .seq its.toArray n } = { cls := .type "list", data := .seq its'.toArray n' }) (r : Vals ys its') (hz : ys.length ≤ sizeLine) (t : Nat) :
    Inv X pins σ (upd H p (.lst ys)) { s with heap := s.heap.update p f, toks := t } := by
  have e : (s.heap.update p f).get? p = some { cls := .type "list", data := .seq its'.toArray n' } := by
    rw [Heap.get?_update_self f ho (by rw [hf] <;> rfl), hf]
  refine I.write (x := p) (e := p) (by rw [h]; trivial) (.inl rfl) (fun b u hb q => (Heap.get?_update_other _ _ (Ne.symm hb)).trans q) ⟨_, e⟩ ?_
  exact ⟨hz, its', n', r, e⟩
def rSetL : V → V → V → Hp → (Hp → Prop) → Prop := fun o i v H Q => ∃ p xs k j, o = .ref p ∧ i = .int k ∧ H p = some (.lst xs) ∧ ixN xs.length k = some j ∧ Q (upd H p (.lst (xs.set j v)))
theorem set_list : PSet X rSetL := by
  intro pins s σ H o i v ov iv u Q I ro ri rv h
  obtain ⟨p, xs, k, j, rfl, rfl, hp, hj, q⟩ := h
  cases ro
  obtain ⟨t, rfl⟩ := ri
  obtain ⟨its, n, r, ho, hz⟩ := I.lst hp
  obtain ⟨h1, h2, h3, h4⟩ := ixN_seq hj
  have hl := r.length
  have hn := line63
  have I' : Inv X pins σ (upd H p (.lst (xs.set j v))) { s with heap := s.heap.update p (Obj.mapSeq (·.setIfInBounds j u)) } :=
    I.lstUpd hp ho (mapSeq_set its n j u) (r.set rv j) (by rw [List.length_set]; exact hz) s.toks
  by_cases h0 : 0 ≤ k
  · have hk : k.toNat = j := by
      rw [seqIndex_of h0 h4] at h1
      exact Option.some.inj h1
    exact PySem.W.ki_setAt ho h0 (by omega) (by rw [List.size_toArray, ← hl]; exact h4) (by rw [hk]; exact ⟨_, I', q⟩)
  · have hk : (k + (its.toArray.size : Int)).toNat = j := by
      rw [seqIndex_neg (by omega) h3] at h1
      rw [List.size_toArray, ← hl]
      exact Option.some.inj h1
    exact PySem.W.ki_setBack ho (by omega) (by rw [List.size_toArray, ← hl]; exact h3) (by omega) (by rw [hk]; exact ⟨_, I', q⟩)
theorem slice_bounds (lo hi : Option Int) (n : Nat) : (sliceBounds lo hi none n).1 = ((HT.sIx n 0 lo : Nat) : Int) ∧ (sliceBounds lo hi none n).2.1 = ((HT.sIx n n hi : Nat) : Int) ∧ (sliceBounds lo hi none n).2.2 = 1 := by
  refine ⟨?_, ?_, rfl⟩
  · cases lo with
    | none => simp [sliceBounds, HT.sIx]
    | some i =>
      simp only [sliceBounds, HT.sIx, Option.getD_none, show (1 : Int) > 0 by decide, if_true]
      by_cases h : i < 0
      · simp only [h, if_true] <;> omega
      · simp only [h, if_false] <;> omega
  · cases hi with
    | none => simp [sliceBounds, HT.sIx]
    | some i =>
      simp only [sliceBounds, HT.sIx, Option.getD_none, show (1 : Int) > 0 by decide, if_true]
      by_cases h : i < 0
      · simp only [h, if_true] <;> omega
      · simp only [h, if_false] <;> omega
theorem slicePick_cut (its : List Value) (lo hi : Option Int) : slicePick its.toArray lo hi none = ((its.drop (HT.sIx its.length 0 lo)).take (HT.sIx its.length its.length hi - HT.sIx its.length 0 lo)).toArray := by
  obtain ⟨h1, h2, h3⟩ := slice_bounds lo hi its.toArray.size
  unfold slicePick
  rw [h1, h2, h3]
  simp only [sliceRange_one, pick_run, List.size_toArray] <;> rfl
def rSlL (K : PySem.W.Frag) : V → Option Int → Option Int → Hp → VK → Prop := fun x lo hi H Q => ∃ a xs, x = .ref a ∧ SqL K H a xs ∧ ∀ p, H p = none → Q (.ref p) (upd H p (.lst (cutV xs lo hi)))
theorem sl_list : SlR X (rSlL X.K) := by
  intro pins s σ H x v vl vu lo hi sl Q I rx hs pl pu h
  obtain ⟨a, xs, rfl, hx, q⟩ := h
  cases rx
  obtain ⟨its, r, ht, hz⟩ := I.list hx
  have hlen := r.length
  refine ⟨"list", _, slot_list_getitem.lookup, ht.isList.typeIs, ?_⟩
  refine wpAny_getItem_list_slice ht.isList hs pl pu .none (by simp) ?_ (by rw [List.size_toArray] <;> omega)
  rw [slicePick_cut, ← hlen]
  refine ⟨.ref s.heap.objs.size, _, I.laid (t' := s.toks) (o := .lst (cutV xs lo hi)) (fun b ob q => Heap.get?_push_of_some _ q) (Nat.le_refl _) ?_, rfl, q _ (I.hok.fresh (Nat.le_refl _))⟩
  exact ⟨Nat.le_trans (cutV_length xs lo hi) hz, _, 0, (r.drop (HT.sIx xs.length 0 lo)).take (HT.sIx xs.length xs.length hi - HT.sIx xs.length 0 lo), Heap.get?_push_size _ rfl⟩
def flatV : V → Bool
  | .non => true
  | .bl _ => true
  | .int _ => true
  | .str _ => true
  | _ => false
def eqV : V → V → Bool
  | .non, .non => true
  | .bl a, .bl b => a == b
  | .bl a, .int b => (if a then 1 else 0) == b
  | .int a, .bl b => a == (if b then 1 else 0)
  | .int a, .int b => a == b
  | .str a, .str b => a == b
  | _, _ => false
theorem eqAt_V {A : Around} {s : Shared} {y x : V} {u v : Value} (ry : RelV y u) (rx : RelV x v) (fy : flatV y = true) (fx : flatV x = true) : SeqAt.EqAt A s u v (eqV y x) := by
  cases y with
  | non =>
    cases ry
    cases x with
    | non => cases rx; exact SeqAt.EqAt.same _
    | bl b => cases rx; exact SeqAt.EqAt.none_bool b
    | int b => obtain ⟨t, rfl⟩ := rx; exact SeqAt.EqAt.none_int b t
    | str b => obtain ⟨t, rfl⟩ := rx; exact SeqAt.EqAt.none_str b t
    | _ => exact absurd (show false = true from fx) Bool.false_ne_true
  | bl a =>
    cases ry
    cases x with
    | non => cases rx; exact SeqAt.EqAt.bool_none a
    | bl b => cases rx; exact SeqAt.EqAt.bool_bool a b
    | int b => obtain ⟨t, rfl⟩ := rx; exact SeqAt.EqAt.bool_int a b t
    | str b => obtain ⟨t, rfl⟩ := rx; exact SeqAt.EqAt.bool_str a b t
    | _ => exact absurd (show false = true from fx) Bool.false_ne_true
  | int a =>
    obtain ⟨t', rfl⟩ := ry
    cases x with
    | non => cases rx; exact SeqAt.EqAt.int_none a t'
    | bl b => cases rx; exact SeqAt.EqAt.int_bool a t' b
    | int b => obtain ⟨t, rfl⟩ := rx; exact SeqAt.EqAt.int_int a t' b t
    | str b => obtain ⟨t, rfl⟩ := rx; exact SeqAt.EqAt.int_str a t' b t
    | _ => exact absurd (show false = true from fx) Bool.false_ne_true
  | str a =>
    obtain ⟨t', rfl⟩ := ry
    cases x with
    | non => cases rx; exact SeqAt.EqAt.str_none a t'
    | bl b => cases rx; exact SeqAt.EqAt.str_bool a t' b
    | int b => obtain ⟨t, rfl⟩ := rx; exact SeqAt.EqAt.str_int a t' b t
    | str b => obtain ⟨t, rfl⟩ := rx; exact SeqAt.EqAt.str_str a t' b t
    | _ => exact absurd (show false = true from fx) Bool.false_ne_true
  | _ => exact absurd (show false = true from fy) Bool.false_ne_true
def eqU (x : V) (u : Value) : Bool := match u with
  | .none => eqV .non x
  | .bool b => eqV (.bl b) x
  | .int i _ => eqV (.int i) x
  | .str z _ => eqV (.str z) x
  | _ => false
theorem eqU_of {x y : V} {u : Value} (r : RelV y u) (f : flatV y = true) : eqU x u = eqV y x := by
  cases y with
  | non => cases r; rfl
  | bl b => cases r; rfl
  | int i => obtain ⟨t, rfl⟩ := r; rfl
  | str z => obtain ⟨t, rfl⟩ := r; rfl
  | _ => exact absurd (show false = true from f) Bool.false_ne_true
theorem any_eqU {x : V} : ∀ {xs : List V} {us : List Value}, Vals xs us → xs.all flatV = true → us.any (eqU x) = xs.any fun y => eqV y x
  | _, _, .nil, _ => rfl
  | y :: xs, u :: us, .cons r t, f => by
    rw [List.all_cons, Bool.and_eq_true] at f
    rw [List.any_cons, List.any_cons, eqU_of r f.1, any_eqU t f.2]
theorem mem_eqAt {A : Around} {s : Shared} {x : V} {v : Value} (rx : RelV x v) (fx : flatV x = true) : ∀ {xs : List V} {us : List Value}, Vals xs us → xs.all flatV = true → ∀ u ∈ us, SeqAt.EqAt A s u v (eqU x u)
  | _, _, .nil, _ => fun u hu => by cases hu
  | y :: xs, u :: us, .cons r t, f => fun u' hu => by
    rw [List.all_cons, Bool.and_eq_true] at f
    rcases List.mem_cons.mp hu with rfl | hu
    · rw [eqU_of r f.1]; exact eqAt_V r rx f.1 fx
    · exact mem_eqAt rx fx t f.2 u' hu
def inV (x : V) (xs : List V) : Bool := xs.any fun y => eqV y x
def rIn (K : PySem.W.Frag) (neg : Bool) : R2 := fun x y H Q => ∃ p xs, y = .ref p ∧ (SqL K H p xs ∨ SqT K H p xs) ∧ flatV x = true ∧ xs.all flatV = true ∧ Q (.bl (if neg then !inV x xs else inV x xs)) H
theorem op_notIn_seq : OpR X (compareOp .NotIn) (rIn X.K true) := by
  intro pins s σ H x y v u Q I rx ry h
  obtain ⟨p, xs, rfl, hq, fx, fs, q⟩ := h
  cases ry
  rcases hq with hq | hq
  · obtain ⟨its, r, pl, hz⟩ := I.list hq
    refine SeqAt.notIn_listAt (eqU x) pl.isList (fun w hw => mem_eqAt rx fx r fs w (by simpa using hw)) ⟨.bl _, H, I, rfl, ?_⟩
    rw [show its.toArray.any (eqU x) = its.any (eqU x) by simp, any_eqU r fs]
    exact q
  · obtain ⟨its, r, pl, hz⟩ := I.tuple hq
    refine SeqAt.notIn_tupleAt (eqU x) pl (fun w hw => mem_eqAt rx fx r fs w (by simpa using hw)) ⟨.bl _, H, I, rfl, ?_⟩
    rw [show its.toArray.any (eqU x) = its.any (eqU x) by simp, any_eqU r fs]
    exact q
theorem call_len_seq : CallR X (.builtin "len") (fun xs H Q => ∃ p ys, xs = [.ref p] ∧ (SqL X.K H p ys ∨ SqT X.K H p ys) ∧ Q (.int ys.length) H) := by
  intro pins s σ H xs us Q I r h
  obtain ⟨p, ys, rfl, hq, q⟩ := h
  obtain ⟨u, rfl, rx⟩ := vals1 r
  cases rx
  have hn := line63
  rcases hq with hq | hq
  · obtain ⟨its, r', pl, hz⟩ := I.list hq
    have hlen := r'.length
    exact Calls.call_len_list pl.isList (by simp only [List.size_toArray] <;> omega) ⟨.int ys.length, H, I.tok _, ⟨s.toks + 1, by rw [List.size_toArray, hlen]⟩, q⟩
  · obtain ⟨its, r', pl, hz⟩ := I.tuple hq
    have hlen := r'.length
    exact len_tuple pl (by simp only [List.size_toArray] <;> omega) ⟨.int ys.length, H, I.tok _, ⟨s.toks + 1, by rw [List.size_toArray, hlen]⟩, q⟩
theorem call_len_str : CallR X (.builtin "len") (fun xs H Q => ∃ z, xs = [.str z] ∧ z.length ≤ sizeLine ∧ Q (.int z.length) H) := by
  intro pins s σ H xs us Q I r h
  obtain ⟨z, rfl, hz, q⟩ := h
  obtain ⟨u, rfl, t, rfl⟩ := vals1 r
  have hn := line63
  exact len_str (by omega) ⟨.int z.length, H, I.tok _, ⟨_, rfl⟩, q⟩
theorem call_list_of : CallR X (.type "list") (fun xs H Q => ∃ p ys, xs = [.ref p] ∧ (SqL X.K H p ys ∨ SqT X.K H p ys) ∧ ∀ l, H l = none → Q (.ref l) (upd H l (.lst ys))) := by
  intro pins s σ H xs us Q I r h
  obtain ⟨p, ys, rfl, hq, q⟩ := h
  obtain ⟨u, rfl, rx⟩ := vals1 r
  cases rx
  have fin : ∀ (its : List Value), Vals ys its → ys.length ≤ sizeLine → ∀ (h' : Heap) (c' : Nat), (∀ b o', s.heap.get? b = some o' → h'.get? b = some o') →
      h'.get? s.heap.objs.size = some { cls := .type "list", dict := none, data := .seq its.toArray c', slots := #[] } → EP X pins σ Q (.ref s.heap.objs.size) { s with heap := h' } := fun its r' hz h' c' kp e =>
    ⟨.ref s.heap.objs.size, _, I.laid (t' := s.toks) kp (Nat.le_refl _) (show ObjOk X.prog X.w _ h' _ (.lst ys) from ⟨hz, its, c', r', e⟩), rfl, q _ (I.hok.fresh (Nat.le_refl _))⟩
  rcases hq with hq | hq
  · obtain ⟨its, r', pl, hz⟩ := I.list hq
    have hlen := r'.length
    obtain ⟨o, ho, hc, n, hd⟩ := pl.isList
    exact call_list_seq p (.inl rfl) ho hc hd (fun h' c' kp e => fin its r' hz h' c' kp e) (by simp only [List.size_toArray] <;> omega)
  · obtain ⟨its, r', pl, hz⟩ := I.tuple hq
    have hlen := r'.length
    obtain ⟨o, ho, hc, n, hd⟩ := pl
    exact call_list_seq p (.inr rfl) ho hc hd (fun h' c' kp e => fin its r' hz h' c' kp e) (by simp only [List.size_toArray] <;> omega)
def tyV (K : PySem.W.Frag) (T : String) (x : V) (H : Hp) : Prop := match x with
  | .str _ => T = "str"
  | .int _ => T = "int"
  | .ref p => (T = "list" ∧ ∃ xs, SqL K H p xs) ∨ (T = "tuple" ∧ ∃ o, K.lookup p = some o ∧ o.cls = .type "tuple" ∧ o.dict = none) ∨
      (T = "dict" ∧ ((∃ kvs, H p = some (.dK kvs)) ∨ ∃ kvs, H p = some (.dT kvs))) ∨ (T = "set" ∧ ∃ S n, H p = some (.set S n))
  | _ => False
theorem tyV_is {pins : List (Addr × Obj)} {σ : St} {H : Hp} {s : Shared} {T : String} {x : V} {v : Value} (I : Inv X pins σ H s) (r : RelV x v) (ty : tyV X.K T x H) :
    s.TypeIs v T ∧ ∀ a, v = .ref a → ∃ ob, s.heap.get? a = some ob ∧ ob.dict = none := by
  cases x with
  | str z =>
    obtain ⟨t, rfl⟩ := r
    cases (show T = "str" from ty)
    exact ⟨typeIs_str s z t, fun _ e => nomatch e⟩
  | int i =>
    obtain ⟨t, rfl⟩ := r
    cases (show T = "int" from ty)
    exact ⟨typeIs_int s i t, fun _ e => nomatch e⟩
  | ref p =>
    cases r
    rcases ty with ⟨rfl, xs, hq⟩ | ⟨rfl, o, hk, hc, hd⟩ | ⟨rfl, hk⟩ | ⟨rfl, S, n, hk⟩
    · obtain ⟨its, _, pl, _⟩ := I.list hq
      refine ⟨pl.isList.typeIs, fun a e => ?_⟩
      cases e
      obtain ⟨o, n, e, c, hd, _⟩ := pl
      exact ⟨o, e, hd⟩
    · refine ⟨⟨o, I.kIn p o hk, hc⟩, fun a e => ?_⟩
      cases e
      exact ⟨o, I.kIn _ o hk, hd⟩
    · have z : ∃ o, s.heap.get? p = some o ∧ o.ExactDict := by
        rcases hk with ⟨kvs, hk⟩ | ⟨kvs, hk⟩
        · obtain ⟨_, _, _, _, o, _, _, e, ex, _⟩ := I.hok p _ hk
          exact ⟨o, e, ex⟩
        · obtain ⟨_, _, _, _, o, _, _, e, ex, _⟩ := I.hok p _ hk
          exact ⟨o, e, ex⟩
      obtain ⟨o, e, ex⟩ := z
      refine ⟨⟨o, e, ex.1⟩, fun a e2 => ?_⟩
      cases e2
      exact ⟨o, e, ex.2.1⟩
    · obtain ⟨o, _, _, _, e, ex, _⟩ := I.hok p _ hk
      refine ⟨⟨o, e, ex.1⟩, fun a e2 => ?_⟩
      cases e2
      exact ⟨o, e, ex.2.1⟩
  | _ => exact False.elim ty
def tBM (K : PySem.W.Frag) (T : String) (r : V → List V → Hp → VK → Prop) (to : TE) (t : TA) : TE := fun σ H Q => to σ H fun x H1 => tyV K T x H1 ∧ t σ H1 fun xs H2 => r x xs H2 Q
variable {o e : Expr} {es : List Expr} {to : TE} {t : TA} {name : Str} {apos cpos : Pos} {T id : String} {r : V → List V → Hp → VK → Prop}
theorem pe_bm (pa : PlainAttrs T) (slot : Slot T name id) (hty : typeOf (.builtin id) = pure (.type "method_descriptor")) (hm : MtR X id r) (ho : PE X o to) (ha : PA X (e :: es) t)
    (hbase : attributeBase o name X.env (eval o X.env) = eval o X.env := by rfl)
    (hfew : ((backTo cpos (starEach (e :: es) X.env)).all (fun x => !x.1) && (backToKw cpos (keywordEach [] X.env)).all (fun x => x.1.isSome)
      && decide ((e :: es).length + ([] : List Keyword).length + (if ([] : List Keyword).isEmpty then 0 else 1) < 30)) = true := by rfl)
    (hline : (apos.endLine == cpos.line) = true := by rfl) (hs : starEach (e :: es) X.env = (false, eval e X.env) :: starEach es X.env := by rfl) (hplain : (backTo cpos (starEach es X.env)).any (·.1) = false := by rfl) :
    PE X (.Call (.Attribute o name apos) (e :: es) [] cpos) (tBM X.K T r to t) := by
  intro pins s σ H Q I h
  refine wpAny_Call_method_late hbase hfew hline rfl (thn (ho pins s σ H _ I h) fun v s1 ⟨x, H1, I1, r1, ty, q1⟩ => ?_)
  obtain ⟨h1, h2⟩ := tyV_is I1 r1 ty
  refine ⟨T, id, pa, slot, hty, h1, h2, ?_⟩
  have hA := ha cpos pins s1 σ H1 _ I1 q1
  rw [hs] at hA ⊢
  refine Calls.callWith_builtin (by show (false || (backTo cpos (starEach es X.env)).any (·.1)) = false; rw [hplain] <;> rfl) (Calls.evalArgs_plain ?_)
  exact thn hA fun us s2 ⟨vs, H2, I2, r2, q2⟩ => hm pins s2 σ H2 x vs v us Q I2 r1 r2 q2
end
end L2
namespace L2
open PySem PySem.Spec PyProof.Rows
def MtM (X : Cx) (id : String) (r : V → List V → Hp → VK → Prop) : Prop :=
  ∀ (pins : List (Addr × Obj)) (s : Shared) (σ : St) (H : Hp) (x : V) (xs : List V) (v : Value) (us : List Value) (Q : VK), Inv X pins σ H s → RelV x v → Vals xs us → r x xs H Q →
    wpAny (model X.prog X.w) X.A (call (.builtin id) (v :: us)) (EP X pins σ Q) X.xe s
theorem Vals.one : ∀ {x : V} {us : List Value}, Vals [x] us → ∃ u, us = [u] ∧ RelV x u
  | _, _, .cons r .nil => ⟨_, rfl, r⟩
theorem Vals.rep {xs : List V} {us : List Value} (h : Vals xs us) : ∀ k : Nat, Vals (List.replicate k xs).flatten (List.replicate k us).flatten
  | 0 => .nil
  | k + 1 => by
    rw [List.replicate_succ, List.replicate_succ, List.flatten_cons, List.flatten_cons]
    exact Vals.append h (Vals.rep h k)
theorem foldl_rep (its : List Value) : ∀ (k : Nat) (acc : List Value),
    List.foldl (fun x1 x2 => x1 ++ x2) acc.toArray (List.replicate k its.toArray) = (acc ++ (List.replicate k its).flatten).toArray
  | 0, acc => by simp
  | k + 1, acc => by
    have e : acc.toArray ++ its.toArray = (acc ++ its).toArray := by simp
    have e2 : (acc ++ its) ++ (List.replicate k its).flatten = acc ++ (List.replicate (k + 1) its).flatten := by
      rw [List.replicate_succ, List.flatten_cons, List.append_assoc]
    rw [← e2, ← foldl_rep its k (acc ++ its), ← e, List.replicate_succ, List.foldl_cons]
section
variable {X : Cx} {pins : List (Addr × Obj)} {σ : St} {H : Hp} {s : Shared} {l b : Addr} {xs ys zs : List V}
theorem Inv.lset {its its' : List Value} {n : Nat} {f : Array Value → Array Value} {t' : Nat} (I : Inv X pins σ H s) (hH : H l = some (.lst xs))
    (e : s.heap.get? l = some { cls := .type "list", data := .seq its.toArray n }) (hf : f its.toArray = its'.toArray) (hv : Vals ys its') (hz : ys.length ≤ sizeLine) :
    Inv X pins σ (upd H l (.lst ys)) { s with heap := s.heap.update l (Obj.mapSeq f), toks := t' } := by
  have q := PySem.IsL.update e f
  rw [hf] at q
  refine I.write (x := l) (e := l) (by rw [hH]; exact trivial) (.inl rfl) (fun b' u hb hu => (Heap.get?_update_other s.heap (Obj.mapSeq f) (Ne.symm hb)).trans hu) ⟨_, q⟩ ?_
  exact ⟨hz, its', _, hv, q⟩
theorem Inv.lnew {its : List Value} {t' : Nat} (I : Inv X pins σ H s) (hv : Vals ys its) (hz : ys.length ≤ sizeLine) :
    Inv X pins σ (upd H s.heap.objs.size (.lst ys)) { s with heap := s.heap.push { cls := .type "list", data := .seq its.toArray }, toks := t' } :=
  I.laid (fun _ _ q => Heap.get?_push_of_some _ q) (Nat.le_refl _) ⟨hz, its, 0, hv, Heap.get?_push_size _ rfl⟩
theorem Inv.fresh (I : Inv X pins σ H s) : H s.heap.objs.size = none := I.hok.fresh (Nat.le_refl _)
theorem Inv.lstM (I : Inv X pins σ H s) (hH : H l = some (.lst xs)) : xs.length ≤ sizeLine ∧ ∃ (its : List Value) (n : Nat), Vals xs its ∧ xs.length = its.length ∧ s.heap.get? l = some { cls := .type "list", data := .seq its.toArray n } := by
  obtain ⟨z, its, n, r, e⟩ := I.hok l _ hH
  exact ⟨z, its, n, r, r.length, e⟩
theorem notLongL {n : Nat} (h : n ≤ sizeLine) : Builtin.List.listTooLong n = false := by
  unfold Builtin.List.listTooLong
  exact decide_eq_false (by omega)
end
section
variable {X : Cx}
def rAppend : V → List V → Hp → VK → Prop := fun x vs H Q => ∃ l xs y, x = .ref l ∧ vs = [y] ∧ H l = some (.lst xs) ∧ xs.length < sizeLine ∧ Q .non (upd H l (.lst (xs ++ [y])))
theorem mt_append : MtM X "list.append" rAppend := by
  intro pins s σ H x vs v us Q I rx rv h
  obtain ⟨l, xs, y, rfl, rfl, hH, hz, q⟩ := h
  cases rx
  obtain ⟨u, rfl, ru⟩ := rv.one
  obtain ⟨z, its, n, r, hl, e⟩ := I.lstM hH
  refine call_meets F.slot_list_append ⟨_, e, rfl⟩ F.entry_list_append (F.args_list_append_2 _ _) (PySem.list_append l its.toArray n u (by rw [List.size_toArray]; omega)) ⟨e, ?_⟩
  refine ⟨.non, _, I.lset (its' := its ++ [u]) hH e (by simp) (r.append (.cons ru .nil)) ?_, rfl, q⟩
  rw [List.length_append, List.length_singleton]
  omega
def rCat : R2 := fun x y H Q => ∃ l b xs zs, x = .ref l ∧ y = .ref b ∧ H l = some (.lst xs) ∧ H b = some (.lst zs) ∧ xs.length + zs.length ≤ sizeLine ∧ ∀ p, H p = none → Q (.ref p) (upd H p (.lst (xs ++ zs)))
theorem op_cat : OpR X (binaryOp .Add) rCat := by
  intro pins s σ H x y v u Q I rx ry h
  obtain ⟨l, b, xs, zs, rfl, rfl, hH, hB, hz, q⟩ := h
  cases rx
  cases ry
  obtain ⟨z, its, n, r, hl, e⟩ := I.lstM hH
  obtain ⟨z2, its2, n2, r2, hl2, e2⟩ := I.lstM hB
  refine PySem.P.add_list e e2 ?_ (by rw [List.size_toArray, List.size_toArray]; omega)
  have ea : its.toArray ++ its2.toArray = (its ++ its2).toArray := by simp
  rw [ea]
  exact ⟨.ref _, _, I.lnew (t' := s.toks) (r.append r2) (by rw [List.length_append]; omega), rfl, q _ I.fresh⟩
def rRep : R2 := fun x y H Q => ∃ l k xs, x = .ref l ∧ y = .int k ∧ H l = some (.lst xs) ∧ -(2 ^ 63) ≤ k ∧ k < 2 ^ 63 ∧ xs.length * k.toNat ≤ sizeLine ∧
  ∀ p, H p = none → Q (.ref p) (upd H p (.lst (List.replicate k.toNat xs).flatten))
theorem len_rep {α : Type} (xs : List α) (k : Nat) : (List.replicate k xs).flatten.length = k * xs.length := by
  induction k with
  | zero => simp
  | succ k ih => rw [List.replicate_succ, List.flatten_cons, List.length_append, ih, Nat.succ_mul, Nat.add_comm]
theorem op_rep : OpR X (binaryOp .Mult) rRep := by
  intro pins s σ H x y v u Q I rx ry h
  obtain ⟨l, k, xs, rfl, rfl, hH, h1, h2, hz, q⟩ := h
  cases rx
  obtain ⟨t, rfl⟩ := ry
  obtain ⟨z, its, n, r, hl, e⟩ := I.lstM hH
  have hlen : its.toArray.size * k.toNat ≤ sizeLine := by rw [List.size_toArray, ← hl]; exact hz
  have hcap : ¬ its.toArray.size * k.toNat > (2 ^ 63 - 1) / 8 := by
    have : (sizeLine : Nat) ≤ (2 ^ 63 - 1) / 8 := by decide
    omega
  have hfit : ¬ (!Builtin.List.listFitsIndex k) = true := by
    rw [fitsIndex_both h1 h2]
    exact Bool.false_ne_true
  have hlong : ¬ Builtin.List.listTooLong (its.toArray.size * k.toNat) = true := by
    rw [notLongL hlen]
    exact Bool.false_ne_true
  have hnew : List.foldl (fun x1 x2 => x1 ++ x2) #[] (List.replicate (if its.toArray.isEmpty = true then 0 else k.toNat) its.toArray) = (List.replicate k.toNat its).flatten.toArray := by
    have f0 : ∀ m : Nat, List.foldl (fun x1 x2 => x1 ++ x2) #[] (List.replicate m its.toArray) = (List.replicate m its).flatten.toArray := fun m => by
      have := foldl_rep its m []
      rw [List.nil_append] at this
      exact this
    rw [f0]
    cases its with
    | nil => simp
    | cons a r' => rw [if_neg (by simp)]
  refine wpAny_binaryOp_repeat_ref (T := "list") (U := "int") (by decide) ⟨_, e, rfl⟩ (fun s' => typeIs_int s' k t) noFill_list_mul F.fills_int_mul F.slot_int_rmul repeat_list F.slot_int_index.lookup
    (call_meets F.slot_int_rmul (typeIs_int s k t) F.entry_int_rmul (F.args_int_rmul_2 _ _) (int___rmul___int_list k t l its.toArray n)
      ⟨e, rfl, ⟨_, e, rfl⟩, call_meets F.slot_list_mul ⟨_, e, rfl⟩ F.entry_list_mul (F.args_list_mul_2 _ _) (AutoListH.list___mul___list_int_3 l its.toArray n k t hfit hcap hlong) ⟨e, ?_⟩⟩)
  rw [hnew]
  exact ⟨.ref _, _, I.lnew (t' := s.toks) (r.rep k.toNat) (by rw [len_rep, Nat.mul_comm]; exact hz), rfl, q _ I.fresh⟩
end
section
variable {prog : Program} {w : World} {A : Around} {E : Value → Shared → Prop} {s : Shared}
theorem splice_eq (its its2 : List Value) (a c : Nat) : its.toArray.extract 0 a ++ its2.toArray ++ its.toArray.extract c its.toArray.size = (its.take a ++ its2 ++ its.drop c).toArray := by
  apply Array.toList_inj.mp
  first
    | (simp
       exact List.take_of_length_le (by simp))
    | simp [List.take_of_length_le]
    | simp
theorem bounds_run {a c n : Nat} (hac : a ≤ c) (hc : c ≤ n) : sliceBounds (some (a : Int)) (some (c : Int)) none n = ((a : Int), (c : Int), 1) := by
  simp only [sliceBounds, Option.getD_none]
  have h1 : ¬ ((a : Int) < 0) := by omega
  have h2 : ¬ ((c : Int) < 0) := by omega
  simp only [h1, h2, if_false, show (1 : Int) > 0 by decide, if_true]
  congr 1
  · omega
  · congr 1; omega
set_option maxRecDepth 100000 in
theorem setItem_slice {l b sl : Addr} {items new : Array Value} {n n2 : Nat} {vl vu : Value} {a c : Nat} {Q : Unit → Shared → Prop}
    (e : s.heap.get? l = some { cls := .type "list", data := .seq items n }) (e2 : s.heap.get? b = some { cls := .type "list", data := .seq new n2 }) (hne : l ≠ b)
    (hs : s.heap.IsSliceOf sl vl vu .none) (pl : IsPart vl (some (a : Int))) (pu : IsPart vu (some (c : Int))) (hac : a ≤ c) (hc : c ≤ items.size)
    (hsz : items.size + new.size ≤ sizeLine) (h : Q () { s with heap := s.heap.update l (Obj.mapSeq fun xs => xs.extract 0 a ++ new ++ xs.extract c xs.size) }) :
    wpAny (model prog w) A (setItem (.ref l) (.ref sl) (.ref b)) Q E s := by
  have hl : s.heap.IsList l items := PySem.IsL.isList e
  have hb : s.heap.IsList b new := PySem.IsL.isList e2
  obtain ⟨os, hos, hcs, hds⟩ := id hs
  have hTs : s.TypeIs (.ref sl) "slice" := ⟨os, hos, hcs⟩
  have hstep : ¬ ((rawPart none == rawInt 0) = true) := Bool.false_ne_true
  have hsame : Builtin.List.listSameRef (.ref l) (.ref b) = false := by
    unfold Builtin.List.listSameRef
    exact beq_eq_false_iff_ne.mpr hne
  have hmax : (max (a : Int) (c : Int)).toNat = c := by omega
  have hz' : ((fun xs : Array Value => xs.extract 0 a ++ new ++ xs.extract c xs.size) items).size ≤ sizeLine + 1 := by
    simp only [Array.size_append, Array.size_extract]
    omega
  unfold setItem
  try with_reducible refine wpAny_holding ?_
  first | refine wpAny_bind (wpAny_pure ?_) | skip
  refine wpAny_bind (wpAny_sequenceKey hl.typeIs (by decide) ?_)
  refine wpAny_bind (wpAny_callSpecial?_slot (name := Str.ofString "__setitem__") hl.typeIs slot_list_setitem
    (wpAny_call_entry slot_list_setitem hl.typeIs entry_list_setitem ?_ (args_list_setitem _ _ _)))
  show wpAny _ _ (Builtin.List.listSubscript? (.ref sl) >>= _) _ _ s
  refine wpAny_bind ?_
  unfold Builtin.List.listSubscript?
  refine wpAny_bind (wpAny_specialOf hTs slice_no_index ?_)
  simp only [Option.isNone_none, if_true]
  refine wpAny_pure ?_
  show wpAny _ _ (typeOf (.ref sl) >>= _) _ _ s
  refine wpAny_bind (wpAny_typeOf hTs ?_)
  first
    | rw [if_neg (by decide)]
    | refine PySem.W.KFB.if_not (by decide) ?_
  rw [listSliceParts_eq]
  refine wpAny_bind (wpAny_bind (wpAny_field hos hds (x := .none) rfl (wpAny_bind (wpAny_listPart .none ?_))))
  rw [if_neg hstep]
  refine wpAny_bind (wpAny_field hos hds (x := vl) rfl (wpAny_bind (wpAny_listPart pl ?_)))
  refine wpAny_bind (wpAny_field hos hds (x := vu) rfl (wpAny_bind (wpAny_listPart pu (wpAny_pure ?_))))
  first
    | simp only [hsame, Bool.false_eq_true, if_false]
    | refine PySem.W.KFB.if_not hsame ?_
    | (dsimp only
       rw [if_neg (by rw [hsame]; exact Bool.false_ne_true)])
  refine wpAny_bind (m := Builtin.List.listAllItems (.ref b) "must assign iterable to extended slice") ?_
  unfold Builtin.List.listAllItems
  refine wpAny_bind (wpAny_typeOf hb.typeIs ?_)
  first
    | refine PySem.W.KFB.if_so (by decide) ?_
    | rw [if_pos (by decide)]
    | simp only [beq_self_eq_true, Bool.true_or, if_true]
  unfold Builtin.List.listItems
  refine wpAny_bind (wpAny_seqItems e2 rfl (wpAny_pure ?_))
  refine wpAny_bind (wpAny_bind (wpAny_seqItems e rfl (wpAny_pure ?_)))
  refine wpAny_bind (wpAny_of_eq ((sliceIndices_raw (some (a : Int)) (some (c : Int)) none items.size (by simp)).trans (congrArg (pure : Int × Int × Int → Sem (Int × Int × Int)) (bounds_run hac hc))) ?_)
  show wpAny _ _ (if ((1 : Int) == 1) = true then _ else _) _ _ s
  rw [if_pos (by decide)]
  refine wpAny_bind (wpAny_rule ?_)
  first
    | simp only [notLongL hsz, Bool.false_eq_true, if_false]
    | refine PySem.W.KFB.if_not (notLongL hsz) ?_
  first | refine wpAny_bind (wpAny_pure ?_) | skip
  show wpAny _ _ (updateSeq l (fun xs => xs.extract 0 ((a : Int)).toNat ++ new ++ xs.extract (max (a : Int) (c : Int)).toNat xs.size) >>= _) _ _ s
  rw [hmax, Int.toNat_natCast]
  refine wpAny_bind (wpAny_updateSeq (hz := Nat.le_trans (Nat.le_add_right _ _) hsz) (_hz' := hz') e rfl ?_)
  refine wpAny_bind (wpAny_letGo ?_)
  first
    | exact wpAny_bind (wpAny_pure (wpAny_pure ⟨.none, rfl, wpAny_pure h⟩))
    | exact wpAny_pure ⟨.none, rfl, wpAny_pure h⟩
end
section
variable {X : Cx}
theorem set_slice {pins : List (Addr × Obj)} {s : Shared} {σ : St} {H : Hp} {l b sl : Addr} {xs ys : List V} {a c : Int} {vl vu : Value} {Q : Unit → Shared → Prop} (I : Inv X pins σ H s)
    (hH : H l = some (.lst xs)) (hB : H b = some (.lst ys)) (hne : l ≠ b) (hs : s.heap.IsSliceOf sl vl vu .none) (ra : RelV (.int a) vl) (rc : RelV (.int c) vu) (h0 : 0 ≤ a) (hac : a ≤ c) (hc : c ≤ xs.length)
    (hz : xs.length + ys.length ≤ sizeLine) (h : ∀ s', Inv X pins σ (upd H l (.lst (xs.take a.toNat ++ ys ++ xs.drop c.toNat))) s' → Q () s') :
    wpAny (model X.prog X.w) X.A (setItem (.ref l) (.ref sl) (.ref b)) Q X.xe s := by
  obtain ⟨ta, rfl⟩ := ra
  obtain ⟨tc, rfl⟩ := rc
  obtain ⟨z, its, n, r, hl, e⟩ := I.lstM hH
  obtain ⟨z2, its2, n2, r2, hl2, e2⟩ := I.lstM hB
  obtain ⟨a', rfl⟩ := Int.eq_ofNat_of_zero_le h0
  obtain ⟨c', rfl⟩ := Int.eq_ofNat_of_zero_le (Int.le_trans h0 hac)
  simp only [Int.toNat_natCast] at h
  refine setItem_slice (a := a') (c := c') e e2 hne hs (.int _ _) (.int _ _) (by omega) (by rw [List.size_toArray]; omega) (by rw [List.size_toArray, List.size_toArray]; omega) (h _ ?_)
  refine I.lset (its' := its.take a' ++ its2 ++ its.drop c') (t' := s.toks) hH e ?_ (Vals.append (Vals.append (r.take _) r2) (r.drop _)) ?_
  · exact splice_eq its its2 a' c'
  · rw [List.length_append, List.length_append, List.length_take, List.length_drop]
    omega
end
end L2
namespace L2
open PySem PySem.Spec PyProof.Rows
section
variable {κ : Type} [DecidableEq κ]
def valV (kvs : List (κ × V)) (k : κ) : Option V := (kvs.find? fun kv => decide (kv.1 = k)).map (·.2)
def putK (kvs : List (κ × V)) (k : κ) (v : V) : List (κ × V) :=
  if (kvs.any fun kv => decide (kv.1 = k)) = true then kvs.map (fun kv => if kv.1 = k then (kv.1, v) else kv) else kvs ++ [(k, v)]
def dropK (kvs : List (κ × V)) (k : κ) : List (κ × V) := kvs.filter fun kv => decide (kv.1 ≠ k)
theorem valV_pos {p : κ × V} {r : List (κ × V)} {k : κ} (e : p.1 = k) : valV (p :: r) k = some p.2 := by simp [valV, List.find?_cons, e]
theorem valV_neg {p : κ × V} {r : List (κ × V)} {k : κ} (e : ¬ p.1 = k) : valV (p :: r) k = valV r k := by simp [valV, List.find?_cons, e]
theorem valV_any (k : κ) : ∀ kvs : List (κ × V), (kvs.any fun kv => decide (kv.1 = k)) = (valV kvs k).isSome
  | [] => rfl
  | p :: r => by
    rw [List.any_cons]
    by_cases e : p.1 = k
    · simp only [valV_pos e, decide_eq_true e, Bool.true_or, Option.isSome_some]
    · rw [valV_neg e, decide_eq_false e, Bool.false_or]; exact valV_any k r
theorem valV_map (k j : κ) (y : V) : ∀ kvs : List (κ × V), valV (kvs.map fun kv => if kv.1 = k then (kv.1, y) else kv) j = (valV kvs j).map fun x => if j = k then y else x
  | [] => rfl
  | p :: r => by
    have ih := valV_map k j y r
    rw [List.map_cons]
    by_cases h : p.1 = k
    · rw [if_pos h]
      by_cases e : p.1 = j
      · rw [valV_pos (p := (p.1, y)) e, valV_pos e, Option.map_some, if_pos (e.symm.trans h)]
      · rw [valV_neg (p := (p.1, y)) e, valV_neg e, ih]
    · rw [if_neg h]
      by_cases e : p.1 = j
      · rw [valV_pos (p := p) e, valV_pos e, Option.map_some, if_neg (fun z => h (e.trans z))]
      · rw [valV_neg (p := p) e, valV_neg e, ih]
theorem valV_snoc (k j : κ) (y : V) : ∀ kvs : List (κ × V), valV kvs k = none → valV (kvs ++ [(k, y)]) j = if j = k then some y else valV kvs j
  | [], _ => by
    by_cases e : k = j
    · rw [if_pos e.symm]; exact valV_pos (p := (k, y)) e
    · rw [if_neg (fun z => e z.symm)]; exact valV_neg (p := (k, y)) e
  | p :: r, hn => by
    rw [List.cons_append]
    have hk : ¬ p.1 = k := fun z => by rw [valV_pos z] at hn; cases hn
    rw [valV_neg hk] at hn
    have ih := valV_snoc k j y r hn
    by_cases e : p.1 = j
    · rw [valV_pos e, valV_pos e, if_neg (fun z => hk (e.trans z))]
    · rw [valV_neg e, valV_neg e, ih]
theorem valV_put (kvs : List (κ × V)) (k j : κ) (y : V) : valV (putK kvs k y) j = if j = k then some y else valV kvs j := by
  unfold putK
  by_cases a : (kvs.any fun kv => decide (kv.1 = k)) = true
  · rw [if_pos a, valV_map]
    rw [valV_any] at a
    by_cases e : j = k
    · obtain ⟨x, hx⟩ := Option.isSome_iff_exists.mp a
      rw [if_pos e, e, hx, Option.map_some, if_pos rfl]
    · rw [if_neg e]
      cases valV kvs j with
      | none => rfl
      | some x => rw [Option.map_some, if_neg e]
  · rw [if_neg a]
    refine valV_snoc k j y kvs ?_
    rw [valV_any] at a
    cases q : valV kvs k with
    | none => rfl
    | some x => rw [q] at a; exact (a rfl).elim
theorem length_putK (kvs : List (κ × V)) (k : κ) (v : V) : (putK kvs k v).length ≤ kvs.length + 1 := by
  unfold putK
  split
  · rw [List.length_map]; omega
  · rw [List.length_append, List.length_cons, List.length_nil]; omega
theorem RelO.isSome_eq {o : Option V} {u : Option Value} (r : RelO o u) : o.isSome = u.isSome := by
  cases o with
  | none => cases u with
    | none => rfl
    | some _ => exact (show False from r).elim
  | some _ => cases u with
    | none => exact (show False from r).elim
    | some _ => rfl
theorem RelO.getD {o : Option V} {u : Option Value} {d : V} {d' : Value} (r : RelO o u) (rd : RelV d d') : RelV (o.getD d) (u.getD d') := by
  cases o with
  | none => cases u with
    | none => exact rd
    | some _ => exact (show False from r).elim
  | some _ => cases u with
    | none => exact (show False from r).elim
    | some _ => exact r
theorem KV.val {kvs : List (κ × V)} {vs : List (κ × Value)} (r : KV kvs vs) (k : κ) : RelO (valV kvs k) (valueAt vs k) := by
  unfold KV at r
  induction r with
  | nil => exact True.intro
  | @cons p q ps qs h t ih =>
    obtain ⟨h1, h2⟩ := h
    by_cases e : p.1 = k
    · have e' : q.1 = k := h1.symm.trans e
      have b : valueAt (q :: qs) k = some q.2 := by simp [valueAt, List.find?_cons, e']
      rw [valV_pos e, b]; exact h2
    · have e' : ¬ q.1 = k := fun z => e (h1.trans z)
      have b : valueAt (q :: qs) k = valueAt qs k := by simp [valueAt, List.find?_cons, e']
      rw [valV_neg e, b]; exact ih
theorem KV.any {kvs : List (κ × V)} {vs : List (κ × Value)} (r : KV kvs vs) (k : κ) : (kvs.any fun kv => decide (kv.1 = k)) = vs.any fun kv => decide (kv.1 = k) := by
  unfold KV at r
  induction r with
  | nil => rfl
  | cons h t ih => rw [List.any_cons, List.any_cons, ih, h.1]
theorem KV.repl {kvs : List (κ × V)} {vs : List (κ × Value)} (r : KV kvs vs) (k : κ) {y : V} {u : Value} (ry : RelV y u) :
    KV (kvs.map fun kv => if kv.1 = k then (kv.1, y) else kv) (vs.map fun kv => if kv.1 = k then (kv.1, u) else kv) := by
  unfold KV at r ⊢
  induction r with
  | nil => exact .nil
  | @cons p q ps qs h t ih =>
    rw [List.map_cons, List.map_cons]
    refine .cons ?_ ih
    obtain ⟨h1, h2⟩ := h
    by_cases e : p.1 = k
    · rw [if_pos e, if_pos (h1.symm.trans e)]; exact ⟨h1, ry⟩
    · rw [if_neg e, if_neg (fun z => e (h1.trans z))]; exact ⟨h1, h2⟩
theorem KV.put {kvs : List (κ × V)} {vs : List (κ × Value)} (r : KV kvs vs) (k : κ) {y : V} {u : Value} (ry : RelV y u) : KV (putK kvs k y) (stored vs k u) := by
  unfold putK stored
  rw [r.any k]
  by_cases e : (vs.any fun kv => decide (kv.1 = k)) = true
  · rw [if_pos e, if_pos e]; exact r.repl k ry
  · rw [if_neg e, if_neg e]; exact Paired.snoc r ⟨rfl, ry⟩
theorem KV.keys {kvs : List (κ × V)} {vs : List (κ × Value)} (r : KV kvs vs) : kvs.map (·.1) = vs.map (·.1) := by
  unfold KV at r
  induction r with
  | nil => rfl
  | cons h t ih => rw [List.map_cons, List.map_cons, ih, h.1]
theorem KV.length {kvs : List (κ × V)} {vs : List (κ × Value)} (r : KV kvs vs) : kvs.length = vs.length := Paired.length r
end
theorem kV_is {P : Program} {w : World} {k : Key} {u : Value} (r : RelV (kV k) u) : (mixKind P w).is k u = true := by
  cases k with
  | inl i => obtain ⟨t, e⟩ := (show ∃ t, u = Value.int i t from r); subst e; exact mixKind_int P w i t
  | inr x => obtain ⟨t, e⟩ := (show ∃ t, u = Value.str x t from r); subst e; exact mixKind_str P w x t
theorem items_are {P : Program} {w : World} : ∀ {ks : List Key} {us : List Value}, Vals (ks.map kV) us → ItemsAre (mixKind P w) ks us
  | [], _, r => by rw [List.map_nil] at r; cases r; exact .nil
  | k :: ks, _, r => by
    rw [List.map_cons] at r
    cases r with
    | cons h t => exact .cons (kV_is h) (items_are t)
abbrev KT (H : Hp) : List (List Key × V) → List (List Key × Addr × Value) → Prop := Paired fun p q => p.1 = q.1 ∧ H q.2.1 = some (.tup (p.1.map kV)) ∧ RelV p.2 q.2.2
theorem KT.val {H : Hp} {kvs : List (List Key × V)} {xs : List (List Key × Addr × Value)} (r : KT H kvs xs) (k : List Key) : RelO (valV kvs k) ((atKey xs k).map (·.2)) := by
  induction r with
  | nil => exact True.intro
  | @cons p q ps qs h t ih =>
    obtain ⟨h1, _, h2⟩ := h
    by_cases e : p.1 = k
    · have e' : q.1 = k := h1.symm.trans e
      have b : atKey (q :: qs) k = some q.2 := by simp [atKey, List.find?_cons, e']
      rw [valV_pos e, b]; exact h2
    · have e' : ¬ q.1 = k := fun z => e (h1.trans z)
      have b : atKey (q :: qs) k = atKey qs k := by simp [atKey, List.find?_cons, e']
      rw [valV_neg e, b]; exact ih
theorem KT.repl {H : Hp} {kvs : List (List Key × V)} {xs : List (List Key × Addr × Value)} (r : KT H kvs xs) (k : List Key) {y : V} {u : Value} (ry : RelV y u) :
    KT H (kvs.map fun kv => if kv.1 = k then (kv.1, y) else kv) (xs.map (putAt k u)) := by
  induction r with
  | nil => exact .nil
  | @cons p q ps qs h t ih =>
    rw [List.map_cons, List.map_cons]
    refine .cons ?_ ih
    obtain ⟨h1, h2, h3⟩ := h
    unfold putAt
    by_cases e : p.1 = k
    · rw [if_pos e, if_pos (h1.symm.trans e)]; exact ⟨h1, h2, ry⟩
    · rw [if_neg e, if_neg (fun z => e (h1.trans z))]; exact ⟨h1, h2, h3⟩
theorem KT.put {H : Hp} {kvs : List (List Key × V)} {xs : List (List Key × Addr × Value)} (r : KT H kvs xs) (k : List Key) {b : Addr} {y : V} {u : Value} (hb : H b = some (.tup (k.map kV))) (ry : RelV y u) :
    KT H (putK kvs k y) (storedH xs k b u) := by
  have e : (kvs.any fun kv => decide (kv.1 = k)) = (atKey xs k).isSome := by
    rw [valV_any, (r.val k).isSome_eq, Option.isSome_map]
  unfold putK storedH
  rw [e]
  by_cases q : (atKey xs k).isSome = true
  · rw [if_pos q, if_pos q]; exact r.repl k ry
  · rw [if_neg q, if_neg q]; exact Paired.snoc r ⟨rfl, hb, ry⟩
theorem KT.keeps {H H' : Hp} {kvs : List (List Key × V)} {xs : List (List Key × Addr × Value)} (r : KT H kvs xs) (ht : ∀ b ys, H b = some (.tup ys) → H' b = some (.tup ys)) : KT H' kvs xs :=
  Paired.mapP r fun _ _ z => ⟨z.1, ht _ _ z.2.1, z.2.2⟩
section
variable {P : Program} {w : World} {H : Hp} {h : Heap} {a : Addr}
theorem rd_of {u : HO} (ok : HOk P w H h) (e : Rd H a u) : ObjOk P w H h a u := e.ok ok
theorem dk_rd {kvs : List (Key × V)} (ok : HOk P w H h) (e : Rd H a (.dK kvs)) : kvs.length ≤ sizeLine ∧ (a == sysModules) = false ∧ ∃ vs, KV kvs vs ∧ h.DictOf (mixKind P w) a vs :=
  show ObjOk P w H h a (.dK kvs) from rd_of ok e
theorem dk_of {kvs : List (Key × V)} (ok : HOk P w H h) (e : H a = some (.dK kvs)) : kvs.length ≤ sizeLine ∧ (a == sysModules) = false ∧ ∃ vs, KV kvs vs ∧ h.DictOf (mixKind P w) a vs := dk_rd ok (.inl e)
theorem key_of {ks : List Key} (ok : HOk P w H h) (e : H a = some (.tup (ks.map kV))) : (tupleKind (mixKind P w)).is h ks a := by
  obtain ⟨_, its, r, o, h1, h2, n, h3⟩ := (show ObjOk P w H h a (.tup (ks.map kV)) from ok a _ e)
  exact ⟨o, its.toArray, n, h1, h2, h3, by simpa using items_are r⟩
theorem dt_rd {kvs : List (List Key × V)} (ok : HOk P w H h) (e : Rd H a (.dT kvs)) : kvs.length ≤ sizeLine ∧ (a == sysModules) = false ∧
    ∃ xs, KT H kvs xs ∧ h.DictOfH (tupleKind (mixKind P w)) a xs := by
  obtain ⟨z, y, xs, r, o, es, ep, h1, h2, h3, h4, h5⟩ := (show ObjOk P w H h a (.dT kvs) from rd_of ok e)
  refine ⟨z, y, xs, r, o, es, ep, h1, h2, h3, h4, fun x hx => ?_, h5⟩
  have all : ∀ {l : List (List Key × V)} {m : List (List Key × Addr × Value)}, KT H l m → ∀ x ∈ m, (tupleKind (mixKind P w)).is h x.1 x.2.1 := by
    intro l m q
    induction q with
    | nil => intro x hx; exact nomatch hx
    | @cons p q ps qs hq t ih =>
      intro x hx
      rcases List.mem_cons.mp hx with e | hx
      · subst e
        exact key_of ok (by rw [← hq.1]; exact hq.2.1)
      · exact ih x hx
  exact all r x hx
theorem dt_of {kvs : List (List Key × V)} (ok : HOk P w H h) (e : H a = some (.dT kvs)) : kvs.length ≤ sizeLine ∧ (a == sysModules) = false ∧
    ∃ xs, KT H kvs xs ∧ h.DictOfH (tupleKind (mixKind P w)) a xs := dt_rd ok (.inl e)
end
def DGet (H : Hp) (a : Addr) (y : V) (r : Option V) : Prop :=
  (∃ kvs k, Rd H a (.dK kvs) ∧ y = kV k ∧ r = valV kvs k) ∨ ∃ kvs k b, Rd H a (.dT kvs) ∧ y = .ref b ∧ H b = some (.tup (k.map kV)) ∧ r = valV kvs k
def DPut (H : Hp) (a : Addr) (y v : V) (H' : Hp) : Prop :=
  (∃ kvs k, H a = some (.dK kvs) ∧ y = kV k ∧ kvs.length < sizeLine ∧ H' = upd H a (.dK (putK kvs k v))) ∨
  ∃ kvs k b, H a = some (.dT kvs) ∧ y = .ref b ∧ H b = some (.tup (k.map kV)) ∧ kvs.length < sizeLine ∧ H' = upd H a (.dT (putK kvs k v))
theorem DGet.k {H : Hp} {a : Addr} {kvs : List (Key × V)} {k : Key} (e : H a = some (.dK kvs)) : DGet H a (kV k) (valV kvs k) := .inl ⟨kvs, k, .inl e, rfl, rfl⟩
theorem DPut.k {H : Hp} {a : Addr} {kvs : List (Key × V)} {k : Key} {v : V} (e : H a = some (.dK kvs)) (hl : kvs.length < sizeLine) : DPut H a (kV k) v (upd H a (.dK (putK kvs k v))) := .inl ⟨kvs, k, e, rfl, hl, rfl⟩
section
variable {X : Cx} {pins : List (Addr × Obj)} {σ : St} {H : Hp} {s : Shared} {a : Addr} {y v : V} {u r : Value} {o : Option V} {A : Around} {E : Value → Shared → Prop}
theorem Inv.big (I : Inv X pins σ H s) : sysModules < s.heap.objs.size := by
  have h : mainGlobals < s.heap.objs.size := (I.mod.glob.keeps I.bk).lt
  exact Nat.lt_trans (by decide) h
theorem d_getItem {Q : Value → Shared → Prop} (hu : A.units + 1 < cLine) (I : Inv X pins σ H s) (g : DGet H a y (some v)) (ry : RelV y u) (h : ∀ w' s', Inv X pins σ H s' → RelV v w' → Q w' s') :
    wpAny (model X.prog X.w) A (getItem (.ref a) u) Q E s := by
  rcases g with ⟨kvs, k, e, ey, l⟩ | ⟨kvs, k, b, e, ey, eb, l⟩
  · subst ey
    obtain ⟨z, hd, vs, rel, dd⟩ := dk_rd I.hok e
    obtain ⟨w', hw, rw'⟩ := RelO.some_of (v := v) (o := valueAt vs k) (by rw [l]; exact rel.val k)
    exact wpAny_getItem_of (kV_is ry) dd.mapOf hw (h w' _ (I.tok _) rw')
  · subst ey
    cases (show u = Value.ref b from ry)
    obtain ⟨z, hd, xs, rel, dd⟩ := dt_rd I.hok e
    obtain ⟨w', hw, rw'⟩ := RelO.some_of (v := v) (o := (atKey xs k).map (·.2)) (by rw [l]; exact rel.val k)
    obtain ⟨p, hp, hp2⟩ := Option.map_eq_some_iff.mp hw
    refine wpAny_getItem_heap (tupleKind_room_in1 hu) (key_of I.hok eb) dd hp ?_
    rw [hp2]
    exact h w' _ (I.tok _) rw'
theorem d_in {Q : Value → Shared → Prop} (hu : A.units + 1 < cLine) (I : Inv X pins σ H s) (g : DGet H a y o) (ry : RelV y u) (h : ∀ s', Inv X pins σ H s' → Q (.bool o.isSome) s') :
    wpAny (model X.prog X.w) A (compareOp .In u (.ref a)) Q E s := by
  rcases g with ⟨kvs, k, e, ey, l⟩ | ⟨kvs, k, b, e, ey, eb, l⟩
  · subst ey
    obtain ⟨z, hd, vs, rel, dd⟩ := dk_rd I.hok e
    refine wpAny_in_of (kV_is ry) hd dd.mapOf ?_
    rw [← (rel.val k).isSome_eq, ← l]
    exact h _ (I.tok _)
  · subst ey
    cases (show u = Value.ref b from ry)
    obtain ⟨z, hd, xs, rel, dd⟩ := dt_rd I.hok e
    refine wpAny_in_heap (tupleKind_room_in1 hu) (key_of I.hok eb) hd dd ?_
    have q := (rel.val k).isSome_eq
    rw [Option.isSome_map] at q
    rw [← q, ← l]
    exact h _ (I.tok _)
theorem d_notIn {Q : Value → Shared → Prop} (hu : A.units + 1 < cLine) (I : Inv X pins σ H s) (g : DGet H a y o) (ry : RelV y u) (h : ∀ s', Inv X pins σ H s' → Q (.bool (!o.isSome)) s') :
    wpAny (model X.prog X.w) A (compareOp .NotIn u (.ref a)) Q E s := by
  rcases g with ⟨kvs, k, e, ey, l⟩ | ⟨kvs, k, b, e, ey, eb, l⟩
  · subst ey
    obtain ⟨z, hd, vs, rel, dd⟩ := dk_rd I.hok e
    refine wpAny_notIn_of (kV_is ry) hd dd.mapOf ?_
    rw [← (rel.val k).isSome_eq, ← l]
    exact h _ (I.tok _)
  · subst ey
    cases (show u = Value.ref b from ry)
    obtain ⟨z, hd, xs, rel, dd⟩ := dt_rd I.hok e
    refine wpAny_notIn_heap (tupleKind_room_in1 hu) (key_of I.hok eb) hd dd ?_
    have q := (rel.val k).isSome_eq
    rw [Option.isSome_map] at q
    rw [← q, ← l]
    exact h _ (I.tok _)
theorem d_write {h' : Heap} {t' : Nat} {ob : HO} (I : Inv X pins σ H s) (mu : Mut (H a)) (hs : Heap.SameBut a s.heap h') (he : ∃ q, h'.get? a = some q) (new : ObjOk X.prog X.w (upd H a ob) h' a ob) :
    Inv X pins σ (upd H a ob) { s with heap := h', toks := t' } :=
  I.write (x := a) (e := a) mu (.inl rfl) (fun b q hb z => (hs.2 b hb).trans z) he new
theorem dk_new {P : Program} {w : World} {H' : Hp} {h' : Heap} {kvs : List (Key × V)} {vs : List (Key × Value)} (z : kvs.length ≤ sizeLine) (hd : (a == sysModules) = false) (rel : KV kvs vs) (dd : h'.DictOf (mixKind P w) a vs) :
    ObjOk P w H' h' a (.dK kvs) := ⟨z, hd, vs, rel, dd⟩
theorem d_setItem {H' : Hp} {Q : Unit → Shared → Prop} (hu : A.units + 1 < cLine) (I : Inv X pins σ H s) (g : DPut H a y v H') (ry : RelV y u) (rv : RelV v r) (h : ∀ s', Inv X pins σ H' s' → Q () s') :
    wpAny (model X.prog X.w) A (setItem (.ref a) u r) Q E s := by
  rcases g with ⟨kvs, k, e, ey, l, eH⟩ | ⟨kvs, k, b, e, ey, eb, l, eH⟩
  · subst ey eH
    obtain ⟨z, hd, vs, rel, dd⟩ := dk_of I.hok e
    have hz : vs.length ≤ sizeLine := by rw [← rel.length]; exact z
    have hl : (putK kvs k v).length ≤ sizeLine := by have := length_putK kvs k v; omega
    refine wpAny_setItem_pairs (hsz := hz) (kV_is ry) dd fun h' dd' hs => h _ ?_
    have he : ∃ q, h'.get? a = some q := let ⟨q, _, _, hq, _⟩ := dd'; ⟨q, hq⟩
    exact d_write I (by rw [e]; exact True.intro) hs he (dk_new hl hd (rel.put k rv) dd')
  · subst ey eH
    cases (show u = Value.ref b from ry)
    obtain ⟨z, hd, xs, rel, dd⟩ := dt_of I.hok e
    have hz : xs.length ≤ sizeLine := by rw [← Paired.length rel]; exact z
    have hl : (putK kvs k v).length ≤ sizeLine := by have := length_putK kvs k v; omega
    refine wpAny_setItem_heap (hsz := hz) (tupleKind_room_in1 hu) (key_of I.hok eb) dd fun h' dd' hs => h _ ?_
    obtain ⟨q, es, ep, hq, h2, h3, h4, _, h5⟩ := dd'
    refine d_write I (by rw [e]; exact True.intro) hs ⟨q, hq⟩ ⟨hl, hd, _, (rel.put k eb rv).keeps fun c ys ec => ?_, q, es, ep, hq, h2, h3, h4, h5⟩
    rw [upd_ne (ne_of ec e (fun z => nomatch z))]
    exact ec
end
section
variable {X : Cx} {pins : List (Addr × Obj)} {σ : St} {H : Hp} {s : Shared} {a : Addr} {kvs : List (Key × V)} {k : Key} {u : Value} {A : Around} {E : Value → Shared → Prop}
end
def NoSl (i : Expr) : Prop := ∀ ov iv, subscripted i false ov iv = operate [ov, iv] (getItem ov iv)
theorem subD_of {prog : Program} {w : World} {A : Around} {E : Value → Shared → Prop} {s : Shared} {env : Env} {value slice : Expr} {pos : Pos} {T id : String} {Q : Value → Shared → Prop}
    (hl : typeLookup (.type T) "__getitem__" = pure (some (.builtin id))) (hs : NoSl slice)
    (h : wpAny (model prog w) A (eval value env) (fun o s₁ => wpAny (model prog w) A (eval slice env) (fun i s₂ => s₂.TypeIs o T ∧ wpAny (model prog w) A (getItem o i) Q E s₂) E s₁) E s) :
    wpAny (model prog w) A (eval (.Subscript value slice pos) env) Q E s := by
  refine Subscript_ (wpAny_mono h (fun o s₁ h₁ => wpAny_mono h₁ (fun i s₂ h₂ => ?_) fun _ _ x => x) fun _ _ x => x)
  obtain ⟨hT, h₂⟩ := h₂
  unfold subscriptTail
  refine wpAny_bind ?_
  rw [getitemInPython_of_ne hT.not_modules]
  refine wpAny_bind (wpAny_specialOf hT hl ?_)
  have fin : wpAny (model prog w) A (subscripted slice false o i) (fun r s₃ => wpAny (model prog w) A (letTemporaryGo value o r >>= fun _ => pure r) Q E s₃) E s₂ := by
    rw [hs o i]
    exact wpAny_operating (wpAny_mono h₂ (fun r s₃ h₃ => wpAny_bind (wpAny_letTemporaryGo (wpAny_pure h₃))) fun _ _ x => x)
  first
    | exact wpAny_pure (wpAny_bind fin)
    | exact wpAny_bind (wpAny_pure (wpAny_bind fin))
    | exact wpAny_bind fin
theorem dict_typeIs {X : Cx} {pins : List (Addr × Obj)} {σ : St} {H : Hp} {s : Shared} {a : Addr} {y : V} {o : Option V} (I : Inv X pins σ H s) (g : DGet H a y o) : s.TypeIs (.ref a) "dict" := by
  rcases g with ⟨kvs, k, e, _, _⟩ | ⟨kvs, k, b, e, _, _, _⟩
  · obtain ⟨_, _, vs, _, dd⟩ := dk_rd I.hok e
    exact dd.typeIs
  · obtain ⟨_, _, xs, _, dd⟩ := dt_rd I.hok e
    exact dd.typeIs
def tDGet (td ty : TE) : TE := fun σ H Q => td σ H fun x H1 => ty σ H1 fun y H2 => ∃ a v, x = .ref a ∧ DGet H2 a y (some v) ∧ Q v H2
def tDIn (ty td : TE) : TE := fun σ H Q => ty σ H fun y H1 => td σ H1 fun x H2 => ∃ a o, x = .ref a ∧ DGet H2 a y o ∧ Q (.bl o.isSome) H2
def tDNotIn (ty td : TE) : TE := fun σ H Q => ty σ H fun y H1 => td σ H1 fun x H2 => ∃ a o, x = .ref a ∧ DGet H2 a y o ∧ Q (.bl (!o.isSome)) H2
def sDPut (td ty tv : TE) : TS := fun D σ H => tv σ H fun v H1 => td σ H1 fun x H2 => ty σ H2 fun y H3 => ∃ a H4, x = .ref a ∧ DPut H3 a y v H4 ∧ D.nx σ H4
section
variable {X : Cx} {o i e value : Expr} {pos pos' tpos : Pos} {td ty tv : TE}
theorem pe_dget (hu : X.A.units + 1 < cLine) (ho : PE X o td) (hi : PE X i ty) (hs : NoSl i) : PE X (.Subscript o i pos) (tDGet td ty) := by
  intro pins s σ H Q I h
  refine subD_of PySem.F.slot_dict_getitem.lookup hs (thn (ho pins s σ H _ I h) fun u s1 ⟨x, H1, I1, rx, q1⟩ => thn (hi pins s1 σ H1 _ I1 q1) fun iv s2 ⟨y, H2, I2, ry, a, v, ex, g, q2⟩ => ?_)
  subst ex
  obtain rfl : u = Value.ref a := rx
  exact ⟨dict_typeIs I2 g, d_getItem hu I2 g ry fun w' s3 I3 rw' => ⟨v, H2, I3, rw', q2⟩⟩
theorem pc_din (hu : X.A.units + 1 < cLine) (hi : PE X i ty) (ho : PE X o td) : PC X .In i o (tDIn ty td) := by
  intro pins s σ H Q I h
  refine thn (hi pins s σ H _ I h) fun iv s1 ⟨y, H1, I1, ry, q1⟩ => thn (ho pins s1 σ H1 _ I1 q1) fun u s2 ⟨x, H2, I2, rx, a, ov, ex, g, q2⟩ => ?_
  subst ex
  obtain rfl : u = Value.ref a := rx
  exact d_in hu I2 g ry fun s3 I3 => ⟨.bl ov.isSome, H2, I3, rfl, q2⟩
theorem pc_dnotin (hu : X.A.units + 1 < cLine) (hi : PE X i ty) (ho : PE X o td) : PC X .NotIn i o (tDNotIn ty td) := by
  intro pins s σ H Q I h
  refine thn (hi pins s σ H _ I h) fun iv s1 ⟨y, H1, I1, ry, q1⟩ => thn (ho pins s1 σ H1 _ I1 q1) fun u s2 ⟨x, H2, I2, rx, a, ov, ex, g, q2⟩ => ?_
  subst ex
  obtain rfl : u = Value.ref a := rx
  exact d_notIn hu I2 g ry fun s3 I3 => ⟨.bl (!ov.isSome), H2, I3, rfl, q2⟩
theorem ps_dput (hu : X.A.units + 1 < cLine) (ho : PE X o td) (hi : PE X i ty) (hv : PE X value tv) (hs : swapsWith value (some (.Subscript o i pos')) pos.line X.env = pure false) :
    PS X (.Assign [.Subscript o i pos'] value pos) (sDPut td ty tv) := by
  intro pins s σ H D I h
  refine wpAny_Assign_Subscript (thn (hv pins s σ H _ I h) fun r s1 ⟨v, H1, I1, rv, q1⟩ => thn (ho pins s1 σ H1 _ I1 q1) fun u s2 ⟨x, H2, I2, rx, q2⟩ => thn (hi pins s2 σ H2 _ I2 q2) fun iv s3 ⟨y, H3, I3, ry, a, H4, ex, g, q3⟩ => ?_) hs
  subst ex
  obtain rfl : u = Value.ref a := rx
  exact d_setItem hu I3 g ry rv fun s4 I4 => ⟨σ, H4, I4, q3⟩
end
theorem dk_empty {P : Program} {w : World} {H : Hp} (h : Heap) (hb : sysModules < h.objs.size) : ObjOk P w H (h.push { cls := .type "dict", data := .dict #[] }) h.objs.size (.dK []) :=
  ⟨Nat.zero_le _, beq_eq_false_iff_ne.mpr (Ne.symm (Nat.ne_of_lt hb)), [], .nil, Heap.DictOf.new h⟩
def tDNewK : TE := fun _ H Q => ∀ p, H p = none → Q (.ref p) (upd H p (.dK []))
section
variable {X : Cx} {pos : Pos}
theorem pe_dnewK : PE X (.Dict [] [] pos) tDNewK := fun pins s σ H Q I h =>
  wpAny_Dict_empty ⟨.ref s.heap.objs.size, _, I.laid (a := s.heap.objs.size) (o := .dK []) (t' := s.toks) (fun _ _ q => Heap.get?_push_of_some _ q) (Nat.le_refl _) (dk_empty s.heap I.big), rfl, h _ (I.hok.fresh (Nat.le_refl _))⟩
end
def tPairs : List (TE × TE) → St → Hp → (List (V × V) → Hp → Prop) → Prop
  | [], _, H, Q => Q [] H
  | (tk, tv) :: r, σ, H, Q => tk σ H fun x H1 => tv σ H1 fun y H2 => tPairs r σ H2 fun ps H3 => Q ((x, y) :: ps) H3
abbrev VV : List (V × V) → List (Value × Value) → Prop := Paired fun p q => RelV p.1 q.1 ∧ RelV p.2 q.2
def PPs (X : Cx) (pos : Pos) (keys : List (Option Expr)) (values : List Expr) (trs : List (TE × TE)) : Prop :=
  ∀ (pins : List (Addr × Obj)) (s : Shared) (σ : St) (H : Hp) (Q : List (V × V) → Hp → Prop), Inv X pins σ H s → tPairs trs σ H Q →
    wpAny (model X.prog X.w) X.A (evalPairs (pairTrees keys values X.env pos)) (fun vs s' => ∃ ps H', Inv X pins σ H' s' ∧ VV ps vs ∧ Q ps H') X.xe s
theorem pps_nil {X : Cx} {pos : Pos} : PPs X pos [] [] [] := fun pins s σ H Q I h => pairTrees_nil_walk ⟨[], H, I, .nil, h⟩
theorem pps_cons {X : Cx} {pos : Pos} {k v : Expr} {ks : List (Option Expr)} {vs : List Expr} {tk tv : TE} {trs : List (TE × TE)} (hk : PE X k tk) (hv : PE X v tv) (hr : PPs X pos ks vs trs) :
    PPs X pos (some k :: ks) (v :: vs) ((tk, tv) :: trs) := fun pins s σ H Q I h =>
  pairTrees_cons_walk (thn (hk pins s σ H _ I h) fun u s1 ⟨x, H1, I1, rx, q1⟩ => thn (hv pins s1 σ H1 _ I1 q1) fun w2 s2 ⟨y, H2, I2, ry, q2⟩ =>
    thn (hr pins s2 σ H2 _ I2 q2) fun ws s3 ⟨ps, H3, I3, rel, q3⟩ => ⟨(x, y) :: ps, H3, I3, .cons ⟨rx, ry⟩ rel, q3⟩)
def mergeK (kvs more : List (Key × V)) : List (Key × V) := more.foldl (fun acc kv => putK acc kv.1 kv.2) kvs
theorem KV.merge : ∀ {more : List (Key × V)} {rs : List (Key × Value)} {kvs : List (Key × V)} {vs : List (Key × Value)}, KV more rs → KV kvs vs → KV (mergeK kvs more) (merged vs rs) := by
  intro more rs kvs vs r
  unfold KV at r
  induction r generalizing kvs vs with
  | nil => intro q; exact q
  | @cons p q ps qs h t ih =>
    intro r0
    have e : KV (putK kvs p.1 p.2) (stored vs q.1 q.2) := by
      have := r0.put p.1 h.2
      rw [← h.1]; exact this
    exact ih e
theorem length_mergeK : ∀ (more kvs : List (Key × V)), (mergeK kvs more).length ≤ kvs.length + more.length
  | [], kvs => by show kvs.length ≤ kvs.length + 0; omega
  | p :: r, kvs => by
    have h1 := length_mergeK r (putK kvs p.1 p.2)
    have h2 := length_putK kvs p.1 p.2
    show (mergeK (putK kvs p.1 p.2) r).length ≤ _
    rw [List.length_cons]; omega
theorem carries_of {P : Program} {w : World} : ∀ {kvs : List (Key × V)} {ws : List (Value × Value)}, VV (kvs.map fun kv => (kV kv.1, kv.2)) ws → ∃ rs, Carries (mixKind P w) ws rs ∧ KV kvs rs
  | [], _, r => by rw [List.map_nil] at r; cases r; exact ⟨[], True.intro, .nil⟩
  | p :: kvs, _, r => by
    rw [List.map_cons] at r
    cases r with
    | @cons a b as bs h t =>
      obtain ⟨rs, c, q⟩ := carries_of (P := P) (w := w) t
      obtain ⟨b1, b2⟩ := b
      exact ⟨(p.1, b2) :: rs, ⟨kV_is h.1, rfl, c⟩, .cons ⟨rfl, h.2⟩ q⟩
def tDisp (trs : List (TE × TE)) : TE := fun σ H Q => ∀ p, H p = none → tPairs trs σ (upd H p (.dK [])) fun ps H2 => H2 p = some (.dK []) ∧ ∃ kvs : List (Key × V), ps = kvs.map (fun kv => (kV kv.1, kv.2)) ∧ kvs.length ≤ 15 ∧ Q (.ref p) (upd H2 p (.dK (mergeK [] kvs)))
theorem pe_disp {X : Cx} {pos : Pos} {keys : List (Option Expr)} {values : List Expr} {trs : List (TE × TE)} (h : PPs X pos keys values trs) (hall : keys.all (·.isSome) = true) (hl : keys.length = values.length) (h0 : keys ≠ [])
    (h15 : keys.length ≤ 15) : PE X (.Dict keys values pos) (tDisp trs) := by
  intro pins s σ H Q I q
  have hn := I.hok.fresh (Nat.le_refl s.heap.objs.size)
  have I1 := I.laid (a := s.heap.objs.size) (o := .dK []) (h' := s.heap.push { cls := .type "dict", data := .dict #[] }) (t' := s.toks) (fun _ _ q => Heap.get?_push_of_some _ q) (Nat.le_refl _) (dk_empty s.heap I.big)
  refine wpAny_Dict_walk (knd := mixKind X.prog X.w) hall hl h0 h15 (thn (h pins _ σ _ _ I1 (q _ hn)) fun ws s2 ⟨ps, H2, I2, rel, e, kvs, ep, lk, q2⟩ => ?_)
  subst ep
  obtain ⟨rs, c, rk⟩ := carries_of (P := X.prog) (w := X.w) rel
  obtain ⟨z, hd, vs0, r0, dd⟩ := dk_of I2.hok e
  cases r0
  refine ⟨rs, c, dd, fun h' dd' hs => ⟨.ref s.heap.objs.size, _, ?_, rfl, q2⟩⟩
  have hz : (mergeK [] kvs).length ≤ sizeLine := by
    have h1 := length_mergeK kvs []
    rw [List.length_nil] at h1
    rw [sizeLine_eq]; omega
  have he : ∃ q, h'.get? s.heap.objs.size = some q := let ⟨q, _, _, hq, _⟩ := dd'; ⟨q, hq⟩
  exact d_write I2 (by rw [e]; exact True.intro) hs he (dk_new hz hd (rk.merge .nil) dd')
structure M1 (X : Cx) (o : Expr) (m : Str) (apos : Pos) (e : Expr) (cpos : Pos) : Prop where
  base : attributeBase o m X.env (eval o X.env) = eval o X.env
  few : ((backTo cpos (starEach [e] X.env)).all (fun x => !x.1) && (backToKw cpos (keywordEach [] X.env)).all (fun x => x.1.isSome)
    && decide (([e] : List Expr).length + ([] : List Keyword).length + (if ([] : List Keyword).isEmpty then 0 else 1) < 30)) = true
  line : (apos.endLine == cpos.line) = true
  trees : backTo cpos (starEach [e] X.env) = [(false, eval e X.env)]
def IsD (H : Hp) (a : Addr) : Prop := (∃ kvs, Rd H a (.dK kvs)) ∨ ∃ kvs, Rd H a (.dT kvs)
theorem isD_at {X : Cx} {pins : List (Addr × Obj)} {σ : St} {H : Hp} {s : Shared} {a : Addr} (I : Inv X pins σ H s) (d : IsD H a) :
    s.TypeIs (.ref a) "dict" ∧ (∀ b, Value.ref a = .ref b → ∃ ob, s.heap.get? b = some ob ∧ ob.dict = none) ∧ (a == sysModules) = false := by
  rcases d with ⟨kvs, e⟩ | ⟨kvs, e⟩
  · obtain ⟨_, hd, vs, _, dd⟩ := dk_rd I.hok e
    refine ⟨dd.typeIs, fun b q => ?_, hd⟩
    cases q
    obtain ⟨ob, _, _, h1, h2, _⟩ := dd
    exact ⟨ob, h1, h2.2.1⟩
  · obtain ⟨_, hd, xs, _, dd⟩ := dt_rd I.hok e
    refine ⟨dd.typeIs, fun b q => ?_, hd⟩
    cases q
    obtain ⟨ob, _, _, h1, h2, _⟩ := dd
    exact ⟨ob, h1, h2.2.1⟩
section
variable {X : Cx} {pins : List (Addr × Obj)} {σ : St} {H : Hp} {s : Shared} {a : Addr} {y d : V} {u r : Value} {o : Option V} {A : Around} {E : Value → Shared → Prop}
theorem d_get1 {Q : Value → Shared → Prop} (hu : A.units + 1 < cLine) (I : Inv X pins σ H s) (g : DGet H a y o) (ry : RelV y u) (h : ∀ w' s', Inv X pins σ H s' → RelV (o.getD .non) w' → Q w' s') :
    wpAny (model X.prog X.w) A (call (.builtin "dict.get") [.ref a, u]) Q E s := by
  rcases g with ⟨kvs, k, e, ey, l⟩ | ⟨kvs, k, b, e, ey, eb, l⟩
  · subst ey
    obtain ⟨z, hd, vs, rel, dd⟩ := dk_rd I.hok e
    refine call_meetsIn PySem.F.slot_dict_get dd.typeIs PySem.F.entry_dict_get (PySem.F.args_dict_get_2 _ _) (meets_dict_get (mixKind X.prog X.w) a (kV_is ry) hd) ⟨_, dd.mapOf, h _ _ (I.tok _) ?_⟩
    rw [l]
    exact (rel.val k).getD rfl
  · subst ey
    cases (show u = Value.ref b from ry)
    obtain ⟨z, hd, xs, rel, dd⟩ := dt_rd I.hok e
    refine call_meetsIn PySem.F.slot_dict_get dd.typeIs PySem.F.entry_dict_get (PySem.F.args_dict_get_2 _ _) (meetsH_dict_get (tupleKind (mixKind X.prog X.w)) a b hd) ⟨tupleKind_room_in1 hu, k, xs, key_of I.hok eb, dd, h _ _ (I.tok _) ?_⟩
    rw [l]
    exact (rel.val k).getD rfl
end
def tDGet1 (td ty : TE) : TE := fun σ H Q => td σ H fun x H1 => ∃ a, x = .ref a ∧ IsD H1 a ∧ ty σ H1 fun y H2 => ∃ o, DGet H2 a y o ∧ Q (o.getD .non) H2
section
variable {X : Cx} {o e f : Expr} {apos cpos : Pos} {td ty tx : TE}
theorem pe_dget1 (hu : X.A.units + 1 < cLine) (ho : PE X o td) (he : PE X e ty) (m : M1 X o "get" apos e cpos) : PE X (.Call (.Attribute o "get" apos) [e] [] cpos) (tDGet1 td ty) := by
  intro pins s σ H Q I h
  refine wpAny_Call_method m.base m.few m.line PySem.F.plainAttrs_dict PySem.F.slot_dict_get PySem.F.type_dict_get (thn (ho pins s σ H _ I h) fun u s1 ⟨x, H1, I1, rx, a, ex, d, q1⟩ => ?_)
  subst ex
  obtain rfl : u = Value.ref a := rx
  obtain ⟨t1, t2, _⟩ := isD_at I1 d
  refine ⟨t1, t2, ?_⟩
  rw [m.trees]
  refine Calls.callWith_builtin rfl (Calls.evalArgs_plain (Calls.spliced_cons (thn (he pins s1 σ H1 _ I1 q1) fun iv s2 ⟨y, H2, I2, ry, ov, g, q2⟩ => Calls.spliced_nil ?_)))
  exact d_get1 hu I2 g ry fun w' s3 I3 rw' => ⟨_, H2, I3, rw', q2⟩
end
section
variable {X : Cx} {pins : List (Addr × Obj)} {σ : St} {H : Hp} {s : Shared} {a : Addr} {kvs : List (Key × V)} {A : Around} {E : Value → Shared → Prop}
end
section
variable {X : Cx} {pins : List (Addr × Obj)} {σ : St} {H : Hp} {s : Shared} {a : Addr} {y : V} {u : Value} {A : Around} {E : Value → Shared → Prop}
end
end L2
namespace Att
open PySem PySem.W PySem.Calls PyProof.Rows
theorem ints_of_wellAll {P : Params} {h : Heap} : ∀ (ns : List Int) (vs : List Value), WellAll P h vs (ns.map WData.int) → IntsAre vs ns := by
  intro ns
  induction ns with
  | nil =>
    intro vs w
    rw [List.map_nil] at w
    cases w
    exact .nil
  | cons n ns ih =>
    intro vs w
    rw [List.map_cons] at w
    cases w with
    | cons a b =>
      cases a
      exact .cons _ _ (ih _ b)
theorem script_of {l : OpenLaw} {n : Nat} (hn : l.most = some n) {P : Params} {h : Heap} {args : List WData} {vals : List Value}
    (hpre : l.row.toRowW.claim.pre args = true) (hwl : WellAll P h vals args) :
    ∃ a vs ns, vals = [Value.ref a] ∧ args = [WData.list (ns.map WData.int)] ∧ h.get? a = some { cls := .type "list", data := .seq vs.toArray } ∧ IntsAre vs ns ∧ ns.length ≤ n := by
  have hsh : WShape.hasAll [] args [.list .int] = true := (pre_splitW hpre).1
  have hc : l.pre.holds [] { args := args } = true := (pre_splitW hpre).2
  obtain ⟨d, r, rfl, h1, h2⟩ := hasAllW_cons hsh
  obtain rfl := hasAllW_nil h2
  obtain ⟨xs, rfl, h3⟩ := hasW_list h1
  obtain ⟨ns, rfl⟩ := items_int h3
  have hlen : ns.length ≤ n := by
    unfold OpenLaw.pre at hc
    have h4 : (WTm.not (.lt (.lit (.int (n : Int))) (.len (.arg 0)))).holds [] { args := [.list (ns.map .int)] } = true := by
      have h4 := (holds_andW hc).1
      rw [hn] at h4
      exact h4
    have h5 := condW_of h4 (w_not (w_lt w_lit (w_len_list (w_arg rfl))))
    rw [List.length_map] at h5
    refine Nat.le_of_not_lt fun q => ?_
    have q' : (n : Int) < ((ns.length : Nat) : Int) := by omega
    first
      | (rw [decide_eq_true q'] at h5; exact absurd h5 (by decide))
      | (simp at h5; omega)
  cases hwl with
  | cons w1 w2 =>
    cases w2
    cases w1 with
    | list ho hall => exact ⟨_, _, ns, rfl, rfl, ho, ints_of_wellAll ns _ hall, hlen⟩
theorem post_true (l : OpenLaw) (args : List WData) : l.row.toRowW.claim.post args (.bool true) args = true :=
  postW_of (r := l.row.toRowW) (X := (true == true))
    (show WShape.has [] (.bool true) .bool = true by first | rfl | decide | simp [WShape.has, WShape.arms, WShape.armsAll])
    (show (WTm.eq .res (.lit (.bool true))).value [] { args := args, res := some (.bool true), after := args } = some (.bool (true == true)) from w_eq_bool (w_res rfl) w_lit) rfl
theorem attach_call {l : OpenLaw} {n : Nat} {q : Program} {loose : List Str} {XP : (Str → Option Value) → Heap → Prop} {YP : World → Heap → Prop} {d : DefRec}
    (hn : l.most = some n) (hdf : d.params.defaults = [])
    (call : ∀ (w : World) (s₀ s₁ : Shared) (mg mb : Str → Option Value) (fa : Addr) (o : Obj) (pm cd doc : Value) (a : Addr) (vs : List Value) (ns : List Int),
      Ground q loose [] XP w s₀ mg mb s₁.heap → YP w s₁.heap →
      s₁.heap.get? fa = some o → o.data = .func (docDef d.name d.params d.body d.scope pm cd doc) → s₁.heap.CodeRec cd d.name → mg d.name = some (.ref fa) →
      s₁.heap.get? a = some { cls := .type "list", data := .seq vs.toArray } → IntsAre vs ns → ns.length ≤ n → s₁.gens = #[] →
      codeAny (model l.prog w) callerA (.call (.ref fa) ⟨[.ref a], []⟩) (fun r s' => r = .ok (.ret (.bool true)) ∧ OldK s₁.heap s'.heap ∧ s'.os = s₁.os ∧ AllBare s'.gens) s₁) :
    WalkO q loose XP YP l.row.toRowW d [] (fun f vs => PySem.call f vs) := by
  intro w s₀ s₁ mg mb G Y fa o pm cd doc dV kV ho hd hcd hD hmg hg args vals as hpre hlay hrd hwl hlo
  obtain rfl : dV = .none := Dflts.none hD hdf
  obtain rfl : kV = .none := Dflts.noKw hD
  obtain ⟨a, vs, ns, rfl, rfl, hobj, hints, hlen⟩ := script_of hn hpre hwl
  refine enter_call (codeAny_mono (call w s₀ s₁ mg mb fa o pm cd doc a vs ns G Y ho (fd_plain hd) hcd hmg hobj hints hlen hg) fun r s' hq => ?_)
  obtain ⟨rfl, h2, h3, h4⟩ := hq
  exact ⟨.inl ⟨.bool true, .bool true, [], rfl, fun _ => rfl, .bool true, post_true l _, fun _ => ⟨List.Pairwise.nil, fun _ hm => (nomatch hm)⟩⟩, h2, h3, h4⟩
section
variable {prog : Program} {w : World} {A : Around} {E : Value → Shared → Prop} {s : Shared} {K : Frag}
def noObjs (h : Heap) : Heap := { h with objs := #[] }
theorem noObjs_get (h : Heap) (b : Addr) : (noObjs h).get? b = none := by
  cases e : (noObjs h).get? b with
  | none => rfl
  | some o => exact absurd (Heap.lt_size e) (Nat.not_lt_zero _)
def ledger (h : Heap) (L d : Addr) : List (Addr × Obj) := (List.range h.objs.size).filterMap fun a => if a = L ∨ a = d then none else (h.get? a).map fun o => (a, o)
theorem mem_ledger {h : Heap} {L d a : Addr} {o : Obj} : (a, o) ∈ ledger h L d ↔ a ≠ L ∧ a ≠ d ∧ h.get? a = some o := by
  unfold ledger
  rw [List.mem_filterMap]
  constructor
  · rintro ⟨b, _, e⟩
    split at e
    · cases e
    · rename_i hb
      obtain ⟨o', ho, e'⟩ := Option.map_eq_some_iff.mp e
      cases e'
      exact ⟨fun q => hb (.inl q), fun q => hb (.inr q), ho⟩
  · rintro ⟨n1, n2, ho⟩
    refine ⟨a, List.mem_range.mpr (Heap.lt_size ho), ?_⟩
    rw [if_neg (show ¬ (a = L ∨ a = d) from fun q => q.elim n1 n2), ho] <;> rfl
theorem fr_all {h : Heap} {L : Addr} {m : Str → Option Value} (n : h.Ns L m) : Fr (noObjs h) L h m :=
  ⟨n, fun b o e => (by rw [noObjs_get] at e; cases e), Nat.zero_le _⟩
end
end Att
namespace L2
open PySem PySem.Spec PyProof.Rows
theorem vals_ints : ∀ {vs : List Value} {ns : List Int}, IntsAre vs ns → Vals (ns.map V.int) vs
  | _, _, .nil => .nil
  | _, _, .cons n t h => .cons ⟨t, rfl⟩ (vals_ints h)
def Only (H : Hp) : Prop := ∀ b, H b = none ∨ ∃ o xs, H b = some (.frz o (.lst xs))
end L2
namespace L2
open PySem PySem.Spec PyProof.Rows
abbrev KOf {K : PySem.W.Frag} {h : Heap} (_ : K.In h) : PySem.W.Frag := K
end L2
namespace L2
open PySem PySem.Spec PyProof.Rows
def inClass (s : Stmt) (j : Nat) : Stmt := match s with
  | .ClassDef _ _ _ body _ _ _ _ _ _ _ => body.getD j (.Pass ⟨0, 0, 0, 0⟩)
  | _ => .Pass ⟨0, 0, 0, 0⟩
def defArgs (s : Stmt) : Arguments := match s with
  | .FunctionDef _ a _ _ _ _ _ _ _ _ => a
  | _ => { posonlyargs := [], args := [], vararg := none, kwonlyargs := [], kw_defaults := [], kwarg := none, defaults := [] }
def defBody (s : Stmt) : List Stmt := match s with
  | .FunctionDef _ _ b _ _ _ _ _ _ _ => b
  | _ => []
def defScope (s : Stmt) : Scope := match s with
  | .FunctionDef _ _ _ _ _ _ sc _ _ _ => sc
  | _ => { kind := .function, names := [], isGenerator := false, isCoroutine := false }
abbrev CX0 : CXT := fun _ _ _ _ _ _ => False
abbrev E0 : XK := fun _ _ _ => False
theorem pass0 {X : Cx} : Passes CX0 X E0 := fun _ _ _ _ _ _ _ h => h.elim
structure Fun (K : PySem.W.Frag) (x qual : Str) (st : Stmt) (f : Addr) (fd : FuncData) : Prop where
  ex : ∃ (oc : Value) (od : Option Addr) (kV doc pm : Value) (an : Option Addr) (cdv ct : Value) (osl : Array (Option Value)),
    fd = PySem.W.fnOf x qual (defArgs st) (defBody st) (defScope st) .none kV doc pm an cdv ct ∧ K.lookup f = some ⟨oc, od, .func fd, osl⟩ ∧ PySem.W.codeIn K cdv qual = true
  kp : PySem.W.keepIn K (.ref f) = true
section
variable {P : Program} {w : World} {K : PySem.W.Frag} {mg : Str → Option Value} {base : Heap}
theorem Fun.ok {x qual : Str} {st : Stmt} {f : Addr} {fd : FuncData} {N ps : List Str} {k : Nat} {sp : Sp} (F : Fun K x qual st f fd) (S : FnScope N ps (defScope st)) (len : ∀ vs H Q E, sp vs H Q E → vs.length = ps.length)
    (hbody : ∀ (cdv : Value) (A : Around) (outer : List Env) (s : Shared) (H : Hp) (vs : List V) (Q : VK) (E : XK), Room k (A.deeper (envOfC qual (defScope st) s.heap.objs.size f cdv)) → sp vs H Q E →
      ∃ t, PSs (cxOf CX0 P w K mg base N qual (defScope st) f cdv A outer s H E).nox (defBody st) t ∧ t { nx := fun _ H' => Q .non H', rt := Q } (start N vs) H) : FnOk P w K mg base CX0 (k + 1) f fd ps sp := by
  obtain ⟨oc, od, kV, doc, pm, an, cdv, ct, osl, rfl, lk, hcd⟩ := F.ex
  refine fn_of lk hcd S len fun A outer s H vs Q E hr hsp => ?_
  obtain ⟨t, h, q⟩ := hbody cdv A outer s H vs Q E hr hsp
  exact ⟨t, h.nox, q⟩
theorem Fun.binds {x qual : Str} {st : Stmt} {f : Addr} {fd : FuncData} {ps : List Str} (F : Fun K x qual st f fd)
    (h : ∀ (kV doc pm : Value) (an : Option Addr) (cdv ct : Value) (us : List Value), us.length = ps.length → bindArgs (PySem.W.fnOf x qual (defArgs st) (defBody st) (defScope st) .none kV doc pm an cdv ct) ⟨us, []⟩ = pure (ps.zip us)) : Binds K fd ps [] := by
  obtain ⟨oc, od, kV, doc, pm, an, cdv, ct, osl, rfl, lk, hcd⟩ := F.ex
  exact .all (h kV doc pm an cdv ct)
theorem fun_mk {x qual : Str} {st : Stmt} {f : Addr} {oc : Value} {od an : Option Addr} {osl : Array (Option Value)} {kV doc pm cdv ct : Value} (l : K.lookup f = some ⟨oc, od, .func (PySem.W.fnOf x qual (defArgs st) (defBody st) (defScope st) .none kV doc pm an cdv ct), osl⟩)
    (c : PySem.W.codeIn K cdv qual = true) (k : PySem.W.keepIn K (.ref f) = true) : Fun K x qual st f (PySem.W.fnOf x qual (defArgs st) (defBody st) (defScope st) .none kV doc pm an cdv ct) := ⟨⟨oc, od, kV, doc, pm, an, cdv, ct, osl, rfl, l, c⟩, k⟩
end
theorem hu_of {A : Around} {k : Nat} (hr : Room k A) : A.units + 1 < cLine := Nat.lt_of_le_of_lt (Nat.add_le_add_left (by decide : 1 ≤ 64) _) hr.units
theorem small1000 {n : Nat} (h : n ≤ 1000) : n < sizeLine := Nat.lt_of_le_of_lt h (by decide)
section
variable {X : Cx}
theorem pv (i : Nat) {x : Str} {pos : Pos} (hN : X.N[i]? = some x := by rfl) (hv : Vis X.env.scope x := by first | exact Or.inl rfl | exact Or.inr (Or.inl rfl) | exact Or.inr (Or.inr rfl)) (hd : (x == ("__debug__" : Str)) = false := by decide)
    (hcd : (x == ("__classdict__" : Str)) = false := by decide) : PE X (.Name x pos) (tVar i) := pe_var hN hv hd hcd
end
theorem iteF {A B : Prop} (h : B) : if false = true then A else B := by
  rw [if_neg Bool.false_ne_true]
  exact h
theorem iteT {A B : Prop} (h : A) : if true = true then A else B := by
  rw [if_pos rfl]
  exact h
theorem ite2 {c A B : Prop} [Decidable c] (h1 : c → A) (h2 : ¬ c → B) : if c then A else B := by
  by_cases h : c
  · rw [if_pos h]
    exact h1 h
  · rw [if_neg h]
    exact h2 h
def Same (H H' : Hp) : Prop := ∀ b o, H b = some o → H' b = some o
section
variable {κ : Type} [DecidableEq κ]
end
end L2
set_option maxHeartbeats 4000000
namespace L2
open PySem PySem.Spec PyProof.Rows
section
variable {X : Cx} {pins : List (Addr × Obj)} {σ : St} {H : Hp} {s : Shared} {h' : Heap}
theorem Inv.table {P : Addr} {ps more : Array Value} {t' : Nat} (I : Inv X pins σ H s) (e : H P = some (.tbl ps)) (k : ∀ b o, b ≠ P → s.heap.get? b = some o → h'.get? b = some o)
    (hP : h'.get? P = some { cls := .none, data := .fields (ps ++ more) }) : Inv X pins σ (upd H P (.tbl (ps ++ more))) { s with heap := h', toks := t' } := by
  have nP : ∀ b, H b = none → b ≠ P := fun b n z => by rw [z, e] at n; cases n
  refine I.un ⟨fun b o q n _ _ => k b o (nP b n) q, fun b o q n _ _ => ⟨o.slots, k b o (nP b n) q⟩, fun b o q n _ => by rw [upd_ne (nP b n)]; exact n, fun b o q _ => ?_, fun b xs q => ?_, fun b o u q => ?_, fun b qs q => ?_⟩ fun b u q => ?_
  · by_cases z : b = P
    · exact ⟨_, by rw [z]; exact hP⟩
    · exact ⟨o, k b o z q⟩
  · rw [upd_ne (ne_of q e (by intro z; cases z))]; exact q
  · rw [upd_ne (ne_of q e (by intro z; cases z))]; exact q
  · by_cases z : b = P
    · subst z; rw [e] at q; cases q; exact ⟨more, upd_same⟩
    · exact ⟨#[], by rw [upd_ne z, q]; simp⟩
  · by_cases z : b = P
    · subst z; rw [upd_same] at q; cases q; exact hP
    · rw [upd_ne z] at q
      refine (I.hok b u q).stay (fun c v hc r => k c v ?_ r) (fun c r => by rw [upd_ne (ne_of r e (by intro z; cases z))]; exact r) fun c xs r => by rw [upd_ne (ne_of r e (by intro z; cases z))]; exact r
      rcases hc with hc | hc
      · rw [hc]; exact z
      · exact ne_of hc e (by intro z; cases z)
theorem Inv.track {a : Addr} {o : HO} (I : Inv X pins σ H s) (hs : X.s₀.heap.objs.size ≤ a) (f : FpOk X pins H a) (new : ObjOk X.prog X.w (upd H a o) s.heap a o) : Inv X pins σ (upd H a o) s := by
  obtain ⟨hn, hL, hfs, _, hcl, hpn⟩ := f
  have ne : ∀ b u, H b = some u → b ≠ a := fun b u q => ne_of_none q hn
  refine ⟨I.ok, I.os, I.bare, ⟨I.base.keep, I.base.slot, fun b ob q n hx => ?_, I.base.there, fun b xs q => ?_, fun b ob u q => ?_, fun b ps q => ?_⟩, I.loc, I.cell, ?_, fun x c q => ?_, fun p hp => ?_, fun b u q => ?_, I.len⟩
  · rw [upd_ne (Nat.ne_of_lt (Nat.lt_of_lt_of_le (Heap.lt_size q) hs))]; exact I.base.free b ob q n hx
  · have r := I.base.tups b xs q
    rw [upd_ne (ne b _ r)]; exact r
  · have r := I.base.frzs b ob u q
    rw [upd_ne (ne b _ r)]; exact r
  · obtain ⟨m, r⟩ := I.base.tbls b ps q
    exact ⟨m, by rw [upd_ne (ne b _ r)]; exact r⟩
  · rw [upd_ne (Ne.symm hL)]; exact I.free
  · rw [upd_ne (hcl x c q)]; exact I.freeC x c q
  · obtain ⟨e, n, r⟩ := I.pin p hp
    exact ⟨e, by rw [upd_ne (hpn p hp)]; exact n, r⟩
  · by_cases z : b = a
    · subst z; rw [upd_same] at q; cases q; exact new
    · rw [upd_ne z] at q
      exact (I.hok b u q).stay (fun _ _ _ r => r) (fun c r => by rw [upd_ne (ne c _ r)]; exact r) fun c xs r => by rw [upd_ne (ne c _ r)]; exact r
end
def CodeRecAt (c : Addr) (q : Str) : Heap → Prop := fun h => h.CodeRec (.ref c) q
theorem CodeRecAt.st {c : Addr} {q : Str} {h1 h2 : Heap} (x : CodeRecAt c q h1) (k : ∀ o, h1.get? c = some o → h2.get? c = some o) : CodeRecAt c q h2 := by
  obtain ⟨c', o, vs, t, e, g, r⟩ := x
  cases e
  exact ⟨c, o, vs, t, rfl, k o g, r⟩
theorem CodeRecAt.obj {c : Addr} {q : Str} {h : Heap} (x : CodeRecAt c q h) : ∃ o, h.get? c = some o := by
  obtain ⟨c', o, vs, t, e, g, r⟩ := x
  cases e
  exact ⟨o, g⟩
def FnIs (f : Addr) (params : Arguments) (body : Expr) (scope : Scope) (q : Str) (c : Addr) : Heap → Prop := fun h => ∃ pm ctv, h.get? f = some (PySem.W.kla_obj "<lambda>" q params body scope [] pm c ctv)
theorem FnIs.st {f : Addr} {params : Arguments} {body : Expr} {scope : Scope} {q : Str} {c : Addr} {h1 h2 : Heap} (x : FnIs f params body scope q c h1) (k : ∀ o, h1.get? f = some o → h2.get? f = some o) : FnIs f params body scope q c h2 := by
  obtain ⟨pm, ctv, e⟩ := x
  exact ⟨pm, ctv, k _ e⟩
def LamT (P : Addr) (pos : Pos) (q : Str) (H : Hp) : Prop :=
  H P = some (.tbl #[]) ∨ ∃ c, H P = some (.tbl #[rawInt pos.line, rawInt pos.col, .ref c]) ∧ H c = some (.ext (CodeRecAt c q))
theorem LamT.tbl {P : Addr} {pos : Pos} {q : Str} {H : Hp} (L : LamT P pos q H) : ∃ ps, H P = some (.tbl ps) := by
  rcases L with L | ⟨c, L, _⟩
  · exact ⟨_, L⟩
  · exact ⟨_, L⟩
structure Go (P : Addr) (pos : Pos) (q : Str) (H H' : Hp) : Prop where
  same : ∀ b o, b ≠ P → H b = some o → H' b = some o
  lam : LamT P pos q H'
theorem Go.trans {P : Addr} {pos : Pos} {q : Str} {H H1 H2 : Hp} (a : Go P pos q H H1) (b : Go P pos q H1 H2) : Go P pos q H H2 := ⟨fun c o n e => b.same c o n (a.same c o n e), b.lam⟩
theorem Go.at {P : Addr} {pos : Pos} {q : Str} {H H' : Hp} (G : Go P pos q H H') (L : LamT P pos q H) {b : Addr} {o : HO} (e : H b = some o) (n : ∀ ps, o ≠ .tbl ps) : H' b = some o := by
  obtain ⟨ps, eP⟩ := L.tbl
  exact G.same b o (ne_of e eP (n ps)) e
theorem LamT.upd_new {P : Addr} {pos : Pos} {q : Str} {H : Hp} (L : LamT P pos q H) {a : Addr} {o : HO} (hn : H a = none) : LamT P pos q (upd H a o) := by
  rcases L with L | ⟨c, L, Lc⟩
  · exact .inl (by rw [upd_ne (ne_of_none L hn)]; exact L)
  · exact .inr ⟨c, by rw [upd_ne (ne_of_none L hn)]; exact L, by rw [upd_ne (ne_of_none Lc hn)]; exact Lc⟩
theorem Go.new {P : Addr} {pos : Pos} {q : Str} {H : Hp} (L : LamT P pos q H) {a : Addr} {o : HO} (hn : H a = none) : Go P pos q H (upd H a o) :=
  ⟨fun b u _ e => by rw [upd_ne (ne_of_none e hn)]; exact e, L.upd_new hn⟩
theorem LamT.upd_own {P : Addr} {pos : Pos} {q : Str} {H : Hp} (L : LamT P pos q H) {a : Addr} {o u : HO} (ha : H a = some u) (n1 : ∀ ps, u ≠ .tbl ps) (n2 : ∀ φ, u ≠ .ext φ) : LamT P pos q (upd H a o) := by
  rcases L with L | ⟨c, L, Lc⟩
  · exact .inl (by rw [upd_ne (ne_of L ha (n1 _).symm)]; exact L)
  · exact .inr ⟨c, by rw [upd_ne (ne_of L ha (n1 _).symm)]; exact L, by rw [upd_ne (ne_of Lc ha (n2 _).symm)]; exact Lc⟩
def tLam (P : Addr) (pos : Pos) (q : Str) (params : Arguments) (body : Expr) (scope : Scope) : TE := fun _ H Q => LamT P pos q H ∧
  ∀ H' f c, Go P pos q H H' → H f = none → H' c = some (.ext (CodeRecAt c q)) → H' f = some (.ext (FnIs f params body scope q c)) → Q (.ref f) H'
section
variable {X : Cx}
theorem pe_lam {params : Arguments} {body : Expr} {scope : Scope} {pos : Pos} {c P : Addr} (hcd : X.env.code = .ref c) (hC : PySem.W.CodeHd X.base c P) (hB : X.base.BuiltinsAt X.mg P)
    (hdef : defaultsOf params X.env = ([], [])) (hcl : closureFor scope X.env = pure []) : PE X (.Lambda params body scope pos) (tLam P pos (X.env.qual ++ "<lambda>") params body scope) := by
  intro pins s σ H Q I hh
  obtain ⟨L, h⟩ := hh
  refine PySem.W.kla_eval hdef ?_
  have hg : s.heap.Ns mainGlobals X.mg := I.ok.mod.glob.keeps I.bk
  have hgP : mainGlobals ≠ P := fun z => by
    obtain ⟨o, es, ep, e, _⟩ := I.ok.mod.glob
    have n := (I.bs _ _ e).2
    obtain ⟨ps, eP⟩ := L.tbl
    rw [z, eP] at n
    cases n
  rcases L with L | ⟨c1, L, Lc⟩
  · have hP : s.heap.get? P = some (PySem.W.tabObj #[]) := I.hok P _ L
    have hPlt : P < s.heap.objs.size := Heap.lt_size hP
    refine PySem.W.kla_makeFunction hcl I.ok.glob hg hcd (hC.keeps I.bk) hP trivial rfl hgP (hB.keeps I.bk) fun c' ctv h' tk hx hge hlt hrec htb => ?_
    have fge : s.heap.objs.size ≤ h'.objs.size := Nat.le_trans hge (Nat.le_of_lt hlt)
    have nc : H c' = none := I.hok.fresh hge
    have nf : H h'.objs.size = none := I.hok.fresh fge
    have cP : c' ≠ P := Nat.ne_of_gt (Nat.lt_of_lt_of_le hPlt hge)
    have fP : h'.objs.size ≠ P := Nat.ne_of_gt (Nat.lt_of_lt_of_le hPlt fge)
    have cf : c' ≠ h'.objs.size := Nat.ne_of_lt hlt
    have I1 := I.table (h' := h'.push (PySem.W.kla_obj "<lambda>" (X.env.qual ++ "<lambda>") params body scope [] ((X.mg "__name__").getD .none) c' ctv)) (more := #[rawInt pos.line, rawInt pos.col, .ref c']) (t' := tk) L
      (fun b o z q => Heap.get?_push_of_some _ (hx b o z q)) (Heap.get?_push_of_some _ htb)
    have e0 : (#[] : Array Value) ++ #[rawInt pos.line, rawInt pos.col, .ref c'] = #[rawInt pos.line, rawInt pos.col, .ref c'] := by simp
    rw [e0] at I1
    have rec' : CodeRecAt c' (X.env.qual ++ "<lambda>") (h'.push (PySem.W.kla_obj "<lambda>" (X.env.qual ++ "<lambda>") params body scope [] ((X.mg "__name__").getD .none) c' ctv)) :=
      CodeRecAt.st (show CodeRecAt c' _ h' from hrec) fun o q => Heap.get?_push_of_some _ q
    have I2 := I1.track (a := c') (o := .ext (CodeRecAt c' (X.env.qual ++ "<lambda>"))) (Nat.le_trans I.sz hge) (I.fpOk hge (by rw [upd_ne cP]; exact nc)) ⟨rec', rec'.obj, fun h1 h2 x k => x.st k⟩
    have fn' : FnIs h'.objs.size params body scope (X.env.qual ++ "<lambda>") c' (h'.push (PySem.W.kla_obj "<lambda>" (X.env.qual ++ "<lambda>") params body scope [] ((X.mg "__name__").getD .none) c' ctv)) := ⟨_, _, Heap.get?_push_size _ rfl⟩
    have I3 := I2.track (a := h'.objs.size) (o := .ext (FnIs h'.objs.size params body scope (X.env.qual ++ "<lambda>") c')) (Nat.le_trans I.sz fge)
      (I.fpOk fge (by rw [upd_ne cf.symm, upd_ne fP]; exact nf)) ⟨fn', ⟨_, Heap.get?_push_size _ rfl⟩, fun h1 h2 x k => x.st k⟩
    refine ⟨.ref h'.objs.size, _, I3, rfl, h _ _ c' ⟨fun b o z q => ?_, .inr ⟨c', ?_, ?_⟩⟩ nf ?_ upd_same⟩
    · rw [upd_ne (ne_of_none q nf), upd_ne (ne_of_none q nc), upd_ne z]; exact q
    · rw [upd_ne fP.symm, upd_ne cP.symm, upd_same]
    · rw [upd_ne cf, upd_same]
    · rw [upd_ne cf, upd_same]
  · have hP : s.heap.get? P = some (PySem.W.tabObj #[rawInt pos.line, rawInt pos.col, .ref c1]) := I.hok P _ L
    refine PySem.W.kla_makeFunctionHit (cv := .ref c1) hcl I.ok.glob hg hcd (hC.keeps I.bk) hP (by simp [TriplesOk, rawInt]) (by simp [codeAmong, rawInt]) (hB.keeps I.bk) fun ctv h' tk hk hsz => ?_
    have nf : H h'.objs.size = none := I.hok.fresh hsz
    have fn' : FnIs h'.objs.size params body scope (X.env.qual ++ "<lambda>") c1 (h'.push { cls := .type "function", data := .func (PySem.W.kla_fn "<lambda>" (X.env.qual ++ "<lambda>") params body scope [] ((X.mg "__name__").getD .none) (.ref c1) ctv) }) := ⟨_, _, Heap.get?_push_size _ rfl⟩
    have I1 := I.laid (a := h'.objs.size) (o := .ext (FnIs h'.objs.size params body scope (X.env.qual ++ "<lambda>") c1)) (t' := tk) (fun b u q => Heap.get?_push_of_some _ (hk b u q)) hsz ⟨fn', ⟨_, Heap.get?_push_size _ rfl⟩, fun h1 h2 x k => x.st k⟩
    refine ⟨.ref h'.objs.size, _, I1, rfl, h _ _ c1 (Go.new (.inr ⟨c1, L, Lc⟩) nf) nf ?_ upd_same⟩
    rw [upd_ne (ne_of_none Lc nf)]; exact Lc
end
section
variable {prog : Program} {w : World} {A : Around} {E : Value → Shared → Prop} {s : Shared}
theorem lam_turn {f c p : Addr} {k : Int} {t : Tok} {r : List Value} {pa p1 p2 p3 : Pos} {j : Nat} {q : Str} {pm ctv : Value} {scope : Scope} {Q : Value → Shared → Prop}
    (hA : A.depth < recursionLimit)
    (hf : s.heap.get? f = some (PySem.W.kla_obj "<lambda>" q { posonlyargs := [], args := [{ arg := "row", annotation := none, pos := pa }], vararg := none, kwonlyargs := [], kw_defaults := [], kwarg := none, defaults := [] }
      (.Subscript (.Name "row" p1) (.Constant (.int 0) j p2) p3) scope [] pm c ctv))
    (hsc : scope.kind = .function) (hsn : scope.names = [(PySem.Str.ofString "row", .local)]) (hsg : scope.isGenerator = false) (hsco : scope.isCoroutine = false)
    (hc : s.heap.CodeRec (.ref c) q) (hp : IsTup s.heap p (Value.int k t :: r).toArray) (hr : r.length < 1000) (lim : s.heap.NoLimit)
    (hq : ∀ h₁ tk, (∀ b o, s.heap.get? b = some o → h₁.get? b = some o) → Q (.int k t) { s with heap := h₁, toks := tk }) :
    wpAny (model prog w) A (call (.ref f) [.ref p]) Q E s := by
  refine wpAny_call (PySem.W.kla_callFunE hA hf rfl hsco hsg rfl hc ?_)
  have hb : ∀ (pm' cdv ctv' : Value), bindArgs (PySem.W.kla_fn "<lambda>" q { posonlyargs := [], args := [{ arg := "row", annotation := none, pos := pa }], vararg := none, kwonlyargs := [], kw_defaults := [], kwarg := none, defaults := [] }
      (.Subscript (.Name "row" p1) (.Constant (.int 0) j p2) p3) scope [] pm' cdv ctv') ⟨[.ref p], []⟩ = (pure [(("row" : Str), Value.ref p)] : Sem (List (Str × Value))) := fun _ _ _ => rfl
  rw [hb]
  refine wpAny_pure (wpAny_newFunctionEnv (by rw [hsn]; intro y hy; rw [List.mem_singleton.mp hy]; intro z; cases z) (by rw [hsn]; intro y hy; rw [List.mem_singleton.mp hy]; rfl) (fun h₁ hns hsb => ⟨lim.fresh _ hsb, ?_⟩) hsc)
  have keep : ∀ b o, s.heap.get? b = some o → h₁.get? b = some o := fun b o e => (hsb.2 b (Nat.ne_of_lt (Heap.lt_size e))).trans (Heap.get?_push_of_some _ e)
  refine PySem.W.kla_codeExpr ?_
  refine Subscript_ (wpAny_Name (wpAny_loadName_local hsc (by show scope.names.lookup _ = _; rw [hsn]; rfl) hns rfl ?_) (by decide))
  refine wpAny_Constant_int ?_
  have hp1 : IsTup h₁ p (Value.int k t :: r).toArray := by
    obtain ⟨o, e, rest⟩ := hp
    exact ⟨o, keep _ _ e, rest⟩
  refine subscriptTail_builtinR (x := .int k t) (T := "tuple") hp1.typeIs slot_tuple_getitem.lookup ?_ rfl
  refine getItem_tuple (j := 0) hp1 (by decide) (by decide) ?_ (by simp) ⟨rfl, hq h₁ _ keep⟩
  simp [seqIndex?]
end
end L2
namespace L2
open PySem PySem.Spec PyProof.Rows
def gallopX : Bool → Keyed → Array Keyed → Nat → Nat → Nat → StateT SortSt Sem (Option Nat) := sortPriv% PySem.Builtin.gallop
section
variable {prog : Program} {w : World} {A : Around} {E : Value → Shared → Prop} {s : Shared}
theorem lt_ints {st : SortSt} {x y : Int} {t u : Tok} {p q : Value} {R : Option Bool → SortSt → Prop} (hk : kindOf st = oneType') (h : R (some (decide (x < y))) st) : wpS (model prog w) A E s (lt' (.int x t, p) (.int y u, q)) R st := by
  rw [lt'_eq]
  refine wpS_bind (wpS_get ?_)
  rw [hk, keyLt'_oneType]
  refine wpS_bind (wpS_lift (wpAny_attempt (oneLt_int ⟨rfl, ?_⟩)))
  exact wpS_pure h
theorem halve {st : SortSt} {n : Nat} (β : Nat → Bool) {lo hi : Nat} {Q : (Option (Option Nat) × Nat × Nat) → SortSt → Prop} {F : Nat → (Option (Option Nat) × Nat × Nat) → StateT SortSt Sem (ForInStep (Option (Option Nat) × Nat × Nat))}
    (mono : ∀ i j, i ≤ j → j < n → β j = true → β i = true)
    (stop : ∀ x lo hi {R : ForInStep (Option (Option Nat) × Nat × Nat) → SortSt → Prop}, hi ≤ lo → R (.done (none, lo, hi)) st → wpS (model prog w) A E s (F x (none, lo, hi)) R st)
    (up : ∀ x lo hi {R : ForInStep (Option (Option Nat) × Nat × Nat) → SortSt → Prop}, lo < hi → hi ≤ n → β (lo + (hi - lo) / 2) = true → R (.yield (none, lo + (hi - lo) / 2 + 1, hi)) st → wpS (model prog w) A E s (F x (none, lo, hi)) R st)
    (dn : ∀ x lo hi {R : ForInStep (Option (Option Nat) × Nat × Nat) → SortSt → Prop}, lo < hi → hi ≤ n → β (lo + (hi - lo) / 2) = false → R (.yield (none, lo, lo + (hi - lo) / 2)) st → wpS (model prog w) A E s (F x (none, lo, hi)) R st)
    (h1 : lo ≤ hi) (h2 : hi ≤ n) (h3 : ∀ i, i < lo → β i = true) (h4 : ∀ i, hi ≤ i → i < n → β i = false)
    (h : ∀ k, k ≤ n → (∀ i, i < k → β i = true) → (∀ i, k ≤ i → i < n → β i = false) → Q (none, k, k) st) : wpS (model prog w) A E s (forIn [:n] (none, lo, hi) F) Q st := by
  refine wpS_forRange (I := fun i c st' => st' = st ∧ ∃ lo hi, c = (none, lo, hi) ∧ lo ≤ hi ∧ hi ≤ n ∧ hi - lo ≤ n - i ∧ (∀ j, j < lo → β j = true) ∧ (∀ j, hi ≤ j → j < n → β j = false)) ?_ ?_ ⟨rfl, lo, hi, rfl, h1, h2, by omega, h3, h4⟩
  · rintro i c st' _ hi' ⟨rfl, lo, hi, rfl, g1, g2, g3, g4, g5⟩
    by_cases hl : hi ≤ lo
    · have e : lo = hi := by omega
      subst e
      exact stop _ _ _ hl (h lo g2 g4 g5)
    · have l : lo < hi := by omega
      cases e : β (lo + (hi - lo) / 2) with
      | true => exact up _ _ _ l g2 e ⟨rfl, _, _, rfl, by omega, g2, by omega, fun j hj => mono j _ (by omega) (by omega) e, g5⟩
      | false =>
        refine dn _ _ _ l g2 e ⟨rfl, _, _, rfl, by omega, by omega, by omega, g4, fun j hj hn => ?_⟩
        cases ej : β j with
        | false => rfl
        | true => rw [mono _ j hj hn ej] at e; exact absurd e (by decide)
  · rintro c st' ⟨rfl, lo, hi, rfl, g1, g2, g3, g4, g5⟩
    have e : lo = hi := by omega
    subst e
    exact h lo g2 g4 g5
theorem gallop_any {st : SortSt} {Q : Option Nat → SortSt → Prop} {left : Bool} {arr : Array Keyed} {key : Keyed} {base n hint : Nat} (β : Nat → Bool) (hh : hint < n)
    (bey : ∀ (i : Nat) {R : Option Bool → SortSt → Prop}, i < n → R (some (β i)) st → wpS (model prog w) A E s (do let x ← elem' arr (base + i); if left = true then lt' x key else (do let r ← lt' key x; pure (Option.map (fun b => !b) r))) R st)
    (mono : ∀ i j, i ≤ j → j < n → β j = true → β i = true)
    (h : ∀ k, k ≤ n → (∀ i, i < k → β i = true) → (∀ i, k ≤ i → i < n → β i = false) → Q (some k) st) : wpS (model prog w) A E s (gallopX left key arr base n hint) Q st := by
  have dmono : ∀ i j, i ≤ j → j < n → β i = false → β j = false := fun i j hij hj e => by
    cases ej : β j with
    | false => rfl
    | true => rw [mono i j hij hj ej] at e; exact absurd e (by decide)
  unfold gallopX
  k_delta "gallop"
  dsimp only
  refine wpS_bind (bey hint hh ?_)
  dsimp only
  cases eh : β hint with
  | true =>
    rw [if_pos rfl]
    refine wpS_bind (wpS_mono (wpS_forRange (I := fun i c st' => st' = st ∧ ∃ last ofs, c = (none, last, ofs) ∧ last < ofs ∧ i < ofs ∧ hint + last < n ∧ β (hint + last) = true)
      (Q := fun c st' => st' = st ∧ ∃ last ofs, c = (none, last, ofs) ∧ last < ofs ∧ hint + last < n ∧ β (hint + last) = true ∧ (hint + ofs < n → β (hint + ofs) = false)) ?step ?fin ⟨rfl, 0, 1, rfl, by omega, by omega, by omega, eh⟩) ?post)
    case fin =>
      rintro c st' ⟨rfl, last, ofs, rfl, a1, a2, a3, a4⟩
      exact ⟨rfl, last, ofs, rfl, a1, a3, a4, fun _ => by omega⟩
    case step =>
      rintro i c st' _ hi ⟨rfl, last, ofs, rfl, a1, a2, a3, a4⟩
      dsimp only
      by_cases hm : ofs ≥ n - hint
      · rw [if_pos hm]
        exact wpS_pure ⟨rfl, last, ofs, rfl, a1, a3, a4, fun _ => by omega⟩
      · rw [if_neg hm]
        refine wpS_bind (bey (hint + ofs) (by omega) ?_)
        dsimp only
        cases eo : β (hint + ofs) with
        | true =>
          rw [if_neg (by decide)]
          exact wpS_pure ⟨rfl, ofs, 2 * ofs + 1, rfl, by omega, by omega, by omega, eo⟩
        | false =>
          rw [if_pos (show (!false) = true from rfl)]
          exact wpS_pure ⟨rfl, last, ofs, rfl, a1, a3, a4, fun _ => eo⟩
    case post =>
      rintro c st' ⟨rfl, last, ofs, rfl, a1, a3, a4, a5⟩
      dsimp only
      refine wpS_bind (halve β mono (fun x lo hi R hl r => ?_) (fun x lo hi R hl hn e r => ?_) (fun x lo hi R hl hn e r => ?_) (by omega) (by omega) (fun i hi => mono i (hint + last) (by omega) a3 a4) (fun i hi hn => ?_) fun k k1 k2 k3 => ?_)
      · dsimp only
        rw [if_pos hl]
        exact wpS_pure r
      · dsimp only
        rw [if_neg (by omega)]
        refine wpS_bind (bey _ (by omega) ?_)
        rw [e]
        exact wpS_pure r
      · dsimp only
        rw [if_neg (by omega)]
        refine wpS_bind (bey _ (by omega) ?_)
        rw [e]
        exact wpS_pure r
      · exact dmono (hint + ofs) i (by omega) hn (a5 (by omega))
      · exact wpS_pure (h k k1 k2 k3)
  | false =>
    rw [if_neg (by decide)]
    refine wpS_bind (wpS_mono (wpS_forRange (I := fun i c st' => st' = st ∧ ∃ last ofs, c = (none, last, ofs) ∧ last < ofs ∧ i < ofs ∧ last ≤ hint ∧ β (hint - last) = false)
      (Q := fun c st' => st' = st ∧ ∃ last ofs, c = (none, last, ofs) ∧ last < ofs ∧ last ≤ hint ∧ β (hint - last) = false ∧ (ofs ≤ hint → β (hint - ofs) = true)) ?step ?fin ⟨rfl, 0, 1, rfl, by omega, by omega, by omega, eh⟩) ?post)
    case fin =>
      rintro c st' ⟨rfl, last, ofs, rfl, a1, a2, a3, a4⟩
      exact ⟨rfl, last, ofs, rfl, a1, a3, a4, fun _ => by omega⟩
    case step =>
      rintro i c st' _ hi ⟨rfl, last, ofs, rfl, a1, a2, a3, a4⟩
      dsimp only
      by_cases hm : ofs ≥ hint + 1
      · rw [if_pos hm]
        exact wpS_pure ⟨rfl, last, ofs, rfl, a1, a3, a4, fun _ => by omega⟩
      · rw [if_neg hm]
        refine wpS_bind (bey (hint - ofs) (by omega) ?_)
        dsimp only
        cases eo : β (hint - ofs) with
        | false =>
          rw [if_neg (by decide)]
          exact wpS_pure ⟨rfl, ofs, 2 * ofs + 1, rfl, by omega, by omega, by omega, eo⟩
        | true =>
          rw [if_pos rfl]
          exact wpS_pure ⟨rfl, last, ofs, rfl, a1, a3, a4, fun _ => eo⟩
    case post =>
      rintro c st' ⟨rfl, last, ofs, rfl, a1, a3, a4, a5⟩
      dsimp only
      refine wpS_bind (halve β mono (fun x lo hi R hl r => ?_) (fun x lo hi R hl hn e r => ?_) (fun x lo hi R hl hn e r => ?_) (by omega) (by omega) (fun i hi => ?_) (fun i hi hn => dmono (hint - last) i hi hn a4) fun k k1 k2 k3 => ?_)
      · dsimp only
        rw [if_pos hl]
        exact wpS_pure r
      · dsimp only
        rw [if_neg (by omega)]
        refine wpS_bind (bey _ (by omega) ?_)
        rw [e]
        exact wpS_pure r
      · dsimp only
        rw [if_neg (by omega)]
        refine wpS_bind (bey _ (by omega) ?_)
        rw [e]
        exact wpS_pure r
      · exact mono i (hint - ofs) (by omega) (by omega) (a5 (by omega))
      · exact wpS_pure (h k k1 k2 k3)
end
end L2
namespace L2
open PySem PySem.Spec PyProof.Rows
structure SG (a₀ : Array Keyed) (p : Array (Nat × Nat × Nat)) (st : SortSt) : Prop where
  pm : (arrOf st).Perm a₀
  kd : kindOf st = oneType'
  fl : failedOf st = none
  pd : pendingOf st = p
theorem SG.sz {a₀ p st} (g : SG a₀ p st) : (arrOf st).size = a₀.size := g.pm.size_eq
theorem SG.arr {a₀ p st} (g : SG a₀ p st) {xs : Array Keyed} (hp : xs.Perm (arrOf st)) : SG a₀ p (setArr st xs) := ⟨hp.trans g.pm, g.kd, g.fl, g.pd⟩
theorem SG.get {a₀ p st} (g : SG a₀ p st) (h0 : IntKeys a₀) {i : Nat} (hi : i < a₀.size) : ∃ t q, (arrOf st)[i]? = some (.int (K (arrOf st) i) t, q) := by
  have hi' : i < (arrOf st).size := by rw [g.sz]; exact hi
  obtain ⟨n, t, hn⟩ := h0 _ ((Array.perm_iff_toList_perm.mp g.pm).mem_iff.mp (show (arrOf st)[i] ∈ _ by simp))
  have e := getElem?_pos (arrOf st) i hi'
  have e2 : (arrOf st)[i] = (.int n t, (arrOf st)[i].2) := Prod.ext hn rfl
  refine ⟨t, (arrOf st)[i].2, ?_⟩
  unfold K
  rw [e, e2]
  rfl
def Ris (xs : Array Keyed) (a b : Nat) : Prop := ∀ i j, a ≤ i → i ≤ j → j < b → K xs i ≤ K xs j
def Fal (xs : Array Keyed) (a b : Nat) : Prop := ∀ i j, a ≤ i → i ≤ j → j < b → K xs j ≤ K xs i
def Low (xs ys : Array Keyed) (lo : Nat) : Prop := ∀ k, k < lo → K xs k = K ys k
theorem Low.rfl' {xs : Array Keyed} {lo} : Low xs xs lo := fun _ _ => rfl
theorem Low.then {xs ys zs : Array Keyed} {lo} (h : Low xs ys lo) (g : Low ys zs lo) : Low xs zs lo := fun k hk => (h k hk).trans (g k hk)
theorem Ris.one {xs : Array Keyed} {a b} (h : b ≤ a + 1) : Ris xs a b := fun i j h1 h2 h3 => by
  have : i = j := by omega
  rw [this]; exact Int.le_refl _
theorem low_mirror {xs : Array Keyed} {lo i j : Nat} (hj : j ≤ xs.size) (hl : lo ≤ i) : Low (mirror xs i j ((j - i) / 2)) xs lo := fun k hk => by
  rw [K_mirror hj, if_neg (by omega)]
section
variable {prog : Program} {w : World} {A : Around} {E : Value → Shared → Prop} {s : Shared} {a₀ : Array Keyed} {p : Array (Nat × Nat × Nat)}
theorem ltG {st : SortSt} {i j : Nat} {Q : Option Bool → SortSt → Prop} (g : SG a₀ p st) (h0 : IntKeys a₀) (hi : i < a₀.size) (hj : j < a₀.size)
    (h : Q (some (decide (K (arrOf st) i < K (arrOf st) j))) st) : wpS (model prog w) A E s (ltAt' i j) Q st := by
  obtain ⟨_, _, e1⟩ := g.get h0 hi
  obtain ⟨_, _, e2⟩ := g.get h0 hj
  exact wpS_ltAt g.kd e1 e2 h
theorem revG {st : SortSt} {i j : Nat} {Q : Unit → SortSt → Prop} (h : Q () (setArr st (mirror (arrOf st) i j ((j - i) / 2)))) : wpS (model prog w) A E s (reverseSlice' i j) Q st := by
  rw [reverseSlice'_eq]
  exact wpS_modify h
def ascG (lo a nrem : Nat) : StateT SortSt Sem (Option (Option Nat) × Nat) :=
  forIn [a:nrem] ((none, a) : Option (Option Nat) × Nat) fun _ c => do
    let x ← ltAt' (lo + c.snd) (lo + c.snd - 1)
    match x with
    | some less => if less = true then pure (ForInStep.done (none, c.snd)) else pure (ForInStep.yield (none, c.snd + 1))
    | _ => pure (ForInStep.done (some none, c.snd))
def endG (lo n nrem : Nat) : StateT SortSt Sem (Option Nat) := do
  reverseSlice' lo (lo + n)
  let c ← ascG lo n nrem
  match c.fst with
  | some r => pure r
  | none => pure (some c.snd)
def dropG (lo n nrem : Nat) : StateT SortSt Sem (Option (Option Nat) × Nat × Nat) :=
  forIn [n:nrem] ((none, n, 0) : Option (Option Nat) × Nat × Nat) fun _ c => do
    let x ← ltAt' (lo + c.snd.fst) (lo + c.snd.fst - 1)
    match x with
    | some less =>
      if less = true then
        if c.snd.snd > 0 then do
          reverseSlice' (lo + c.snd.fst - (c.snd.snd + 1)) (lo + c.snd.fst)
          pure (ForInStep.yield (none, c.snd.fst + 1, 0))
        else pure (ForInStep.yield (none, c.snd.fst + 1, 0))
      else do
        let x ← ltAt' (lo + c.snd.fst - 1) (lo + c.snd.fst)
        match x with
        | some more =>
          if more = true then pure (ForInStep.done (none, c.snd.fst, c.snd.snd))
          else pure (ForInStep.yield (none, c.snd.fst + 1, c.snd.snd + 1))
        | _ => pure (ForInStep.done (some none, c.snd.fst, c.snd.snd))
    | _ => pure (ForInStep.done (some none, c.snd.fst, c.snd.snd))
def fallG (lo n nrem : Nat) : StateT SortSt Sem (Option Nat) := do
  liftM (rule "list.sort.descending-run")
  let c ← dropG lo (n + 1) nrem
  match c.fst with
  | some r => pure r
  | none =>
    if c.snd.snd > 0 then do
      reverseSlice' (lo + c.snd.fst - (c.snd.snd + 1)) (lo + c.snd.fst)
      endG lo c.snd.fst nrem
    else endG lo c.snd.fst nrem
theorem countG_eq (lo nrem : Nat) : countRun' lo nrem = (do
    let c ← ascG lo 1 nrem
    match c.fst with
    | some r => pure r
    | none =>
      if (c.snd == nrem) = true then pure (some c.snd)
      else if c.snd > 1 then do
        let x ← ltAt' lo (lo + c.snd - 1)
        match x with
        | some rose => if rose = true then pure (some c.snd) else do
            reverseSlice' lo (lo + c.snd)
            fallG lo c.snd nrem
        | _ => pure none
      else fallG lo c.snd nrem) := by
  rw [countRun'_eq]
  dsimp only
  unfold fallG endG dropG ascG
  congr 1
  funext c
  obtain ⟨r, n⟩ := c
  cases r with
  | some r => rfl
  | none =>
    dsimp only
    split
    · rfl
    · split
      · congr 1
        funext x
        cases x with
        | none => rfl
        | some rose =>
          dsimp only
          split
          · rfl
          · congr 1; funext _; congr 1; funext _; congr 1; funext c2
            obtain ⟨r2, n2, q2⟩ := c2
            cases r2 with
            | some r2 => rfl
            | none =>
              dsimp only
              split
              · congr 1; funext _; congr 1; funext _; congr 1; funext c3
                obtain ⟨r3, n3⟩ := c3
                cases r3 <;> rfl
              · congr 1; funext _; congr 1; funext c3
                obtain ⟨r3, n3⟩ := c3
                cases r3 <;> rfl
      · congr 1; funext _; congr 1; funext c2
        obtain ⟨r2, n2, q2⟩ := c2
        cases r2 with
        | some r2 => rfl
        | none =>
          dsimp only
          split
          · congr 1; funext _; congr 1; funext _; congr 1; funext c3
            obtain ⟨r3, n3⟩ := c3
            cases r3 <;> rfl
          · congr 1; funext _; congr 1; funext c3
            obtain ⟨r3, n3⟩ := c3
            cases r3 <;> rfl
theorem wp_ascG {st : SortSt} {lo a nrem : Nat} {Q : Option (Option Nat) × Nat → SortSt → Prop} (h0 : IntKeys a₀) (hn : lo + nrem ≤ a₀.size) (ha : 1 ≤ a) (han : a ≤ nrem) (g : SG a₀ p st)
    (hs : Ris (arrOf st) lo (lo + a))
    (h : ∀ n, a ≤ n → n ≤ nrem → Ris (arrOf st) lo (lo + n) → (n = nrem ∨ K (arrOf st) (lo + n) < K (arrOf st) (lo + n - 1)) → Q (none, n) st) :
    wpS (model prog w) A E s (ascG lo a nrem) Q st := by
  unfold ascG
  refine wpS_forRange (I := fun x c u => u = st ∧ c = (none, x) ∧ Ris (arrOf st) lo (lo + x)) ?step ?fin ⟨rfl, rfl, hs⟩
  case fin =>
    rintro c u ⟨rfl, rfl, r⟩
    rw [Nat.max_eq_right han] at r ⊢
    exact h nrem han (Nat.le_refl _) r (.inl rfl)
  case step =>
    rintro x c u ax xn ⟨rfl, rfl, r⟩
    dsimp only
    refine wpS_bind (ltG g h0 (by omega) (by omega) ?_)
    by_cases less : K (arrOf u) (lo + x) < K (arrOf u) (lo + x - 1)
    · rw [decide_eq_true less]
      try dsimp only
      exact wpS_pure (h x ax (by omega) r (.inr less))
    · rw [decide_eq_false less]
      refine wpS_pure ⟨rfl, rfl, fun i j h1 h2 h3 => ?_⟩
      by_cases hj : j < lo + x
      · exact r i j h1 h2 hj
      · have ej : j = lo + x := by omega
        by_cases ei : i = j
        · rw [ei]; exact Int.le_refl _
        · rw [ej]
          exact Int.le_trans (r i (lo + x - 1) h1 (by omega) (by omega)) (Int.not_lt.mp less)
theorem wp_endG {st : SortSt} {lo n nrem : Nat} {Q : Option Nat → SortSt → Prop} (h0 : IntKeys a₀) (hn : lo + nrem ≤ a₀.size) (h1 : 1 ≤ n) (hnn : n ≤ nrem) (g : SG a₀ p st)
    (hs : Fal (arrOf st) lo (lo + n)) (h : ∀ m u, SG a₀ p u → Low (arrOf u) (arrOf st) lo → 1 ≤ m → m ≤ nrem → Ris (arrOf u) lo (lo + m) → Q (some m) u) :
    wpS (model prog w) A E s (endG lo n nrem) Q st := by
  unfold endG
  have sz : lo + n ≤ (arrOf st).size := by rw [g.sz]; omega
  refine wpS_bind (revG ?_)
  have g' : SG a₀ p (setArr st (mirror (arrOf st) lo (lo + n) ((lo + n - lo) / 2))) := g.arr (mirror_perm _ _ _ _)
  refine wpS_bind (wp_ascG h0 hn h1 hnn g' (fun i j a1 a2 a3 => ?_) fun m m1 m2 m3 _ => wpS_pure (h m _ g' (low_mirror sz (Nat.le_refl _)) (by omega) m2 m3))
  show K (mirror (arrOf st) lo (lo + n) _) i ≤ K (mirror (arrOf st) lo (lo + n) _) j
  rw [K_mirror sz, K_mirror sz, if_pos ⟨a1, by omega⟩, if_pos ⟨by omega, a3⟩]
  exact hs _ _ (by omega) (by omega) (by omega)
theorem wp_dropG {st : SortSt} {lo n nrem : Nat} {Q : Option (Option Nat) × Nat × Nat → SortSt → Prop} (h0 : IntKeys a₀) (hn : lo + nrem ≤ a₀.size) (h1 : 1 ≤ n) (hnn : n ≤ nrem) (g : SG a₀ p st)
    (hs : Fal (arrOf st) lo (lo + n))
    (h : ∀ m q u, SG a₀ p u → Low (arrOf u) (arrOf st) lo → n ≤ m → m ≤ nrem → Fal (arrOf u) lo (lo + m) → q + 1 ≤ m → (∀ i, lo + m - (q + 1) ≤ i → i < lo + m → K (arrOf u) i = K (arrOf u) (lo + m - 1)) → Q (none, m, q) u) :
    wpS (model prog w) A E s (dropG lo n nrem) Q st := by
  unfold dropG
  refine wpS_forRange (I := fun x c u => ∃ q, c = (none, x, q) ∧ SG a₀ p u ∧ Low (arrOf u) (arrOf st) lo ∧ Fal (arrOf u) lo (lo + x) ∧ q + 1 ≤ x ∧
      (∀ i, lo + x - (q + 1) ≤ i → i < lo + x → K (arrOf u) i = K (arrOf u) (lo + x - 1))) ?step ?fin ⟨0, rfl, g, Low.rfl', hs, by omega, fun i a1 a2 => by congr 1; omega⟩
  case fin =>
    rintro c u ⟨q, rfl, g1, l1, f1, q1, e1⟩
    rw [Nat.max_eq_right hnn] at f1 q1 e1 ⊢
    exact h nrem q u g1 l1 hnn (Nat.le_refl _) f1 q1 e1
  case step =>
    rintro x c u ax xn ⟨q, rfl, g1, l1, f1, q1, e1⟩
    dsimp only
    have sz : lo + x ≤ (arrOf u).size := by rw [g1.sz]; omega
    refine wpS_bind (ltG g1 h0 (by omega) (by omega) ?_)
    by_cases less : K (arrOf u) (lo + x) < K (arrOf u) (lo + x - 1)
    · rw [decide_eq_true less]
      try dsimp only
      have st1 : ∀ xs : Array Keyed, (∀ k, K xs k = K (arrOf u) k) → Fal xs lo (lo + (x + 1)) := by
        intro xs hk i j a1 a2 a3
        rw [hk, hk]
        by_cases hj : j < lo + x
        · exact f1 i j a1 a2 hj
        · have ej : j = lo + x := by omega
          by_cases ei : i = j
          · rw [ei]; exact Int.le_refl _
          · rw [ej]
            exact Int.le_trans (Int.le_of_lt less) (f1 i (lo + x - 1) a1 (by omega) (by omega))
      by_cases hq : q > 0
      · rw [if_pos rfl, if_pos hq]
        refine wpS_bind (revG (wpS_pure ⟨0, rfl, g1.arr (mirror_perm _ _ _ _), fun k hk => ?_, st1 _ (K_mirror_equal sz e1), by omega, fun i a1 a2 => by congr 1; omega⟩))
        exact (K_mirror_equal sz e1 k).trans (l1 k hk)
      · rw [if_pos rfl, if_neg hq]
        exact wpS_pure ⟨0, rfl, g1, l1, st1 _ (fun _ => rfl), by omega, fun i a1 a2 => by congr 1; omega⟩
    · rw [decide_eq_false less]
      dsimp only
      rw [if_neg (by decide)]
      refine wpS_bind (ltG g1 h0 (by omega) (by omega) ?_)
      by_cases more : K (arrOf u) (lo + x - 1) < K (arrOf u) (lo + x)
      · rw [decide_eq_true more]
        exact wpS_pure (h x q u g1 l1 ax (by omega) f1 q1 e1)
      · rw [decide_eq_false more]
        have ex : K (arrOf u) (lo + x) = K (arrOf u) (lo + x - 1) := by omega
        refine wpS_pure ⟨q + 1, rfl, g1, l1, fun i j a1 a2 a3 => ?_, by omega, fun i a1 a2 => ?_⟩
        · by_cases hj : j < lo + x
          · exact f1 i j a1 a2 hj
          · have ej : j = lo + x := by omega
            by_cases ei : i = j
            · rw [ei]; exact Int.le_refl _
            · rw [ej, ex]; exact f1 i (lo + x - 1) a1 (by omega) (by omega)
        · rw [show lo + (x + 1) - 1 = lo + x by omega]
          by_cases ei : i = lo + x
          · rw [ei]
          · rw [ex]; exact e1 i (by omega) (by omega)
theorem wp_fallG {st : SortSt} {lo n nrem : Nat} {Q : Option Nat → SortSt → Prop} (h0 : IntKeys a₀) (hn : lo + nrem ≤ a₀.size) (hnn : n + 1 ≤ nrem) (g : SG a₀ p st)
    (hs : Fal (arrOf st) lo (lo + (n + 1))) (h : ∀ m u, SG a₀ p u → Low (arrOf u) (arrOf st) lo → 1 ≤ m → m ≤ nrem → Ris (arrOf u) lo (lo + m) → Q (some m) u) :
    wpS (model prog w) A E s (fallG lo n nrem) Q st := by
  unfold fallG
  refine wpS_bind (wpS_lift (wpAny_rule ⟨rfl, ?_⟩))
  refine wpS_bind (wp_dropG h0 hn (by omega) hnn g hs fun m q u g1 l1 m1 m2 f1 q1 e1 => ?_)
  dsimp only
  have sz : lo + m ≤ (arrOf u).size := by rw [g1.sz]; omega
  by_cases hq : q > 0
  · rw [if_pos hq]
    refine wpS_bind (revG (wp_endG h0 hn (by omega) m2 (g1.arr (mirror_perm _ _ _ _)) (fun i j a1 a2 a3 => ?_) fun m' u' g2 l2 k1 k2 k3 => h m' u' g2 (fun k hk => ?_) k1 k2 k3))
    · show K (mirror (arrOf u) _ _ _) j ≤ K (mirror (arrOf u) _ _ _) i
      rw [K_mirror_equal sz e1, K_mirror_equal sz e1]
      exact f1 i j a1 a2 a3
    · exact ((l2 k hk).trans (K_mirror_equal sz e1 k)).trans (l1 k hk)
  · rw [if_neg hq]
    exact wp_endG h0 hn (by omega) m2 g1 f1 fun m' u' g2 l2 => h m' u' g2 (l2.then l1)
theorem wp_countG {st : SortSt} {lo nrem : Nat} {Q : Option Nat → SortSt → Prop} (h0 : IntKeys a₀) (hn : lo + nrem ≤ a₀.size) (h1 : 1 ≤ nrem) (g : SG a₀ p st)
    (h : ∀ m u, SG a₀ p u → Low (arrOf u) (arrOf st) lo → 1 ≤ m → m ≤ nrem → Ris (arrOf u) lo (lo + m) → Q (some m) u) :
    wpS (model prog w) A E s (countRun' lo nrem) Q st := by
  rw [countG_eq]
  refine wpS_bind (wp_ascG h0 hn (Nat.le_refl 1) h1 g (Ris.one (Nat.le_refl _)) fun n n1 n2 r1 o1 => ?_)
  dsimp only
  by_cases hnn : n = nrem
  · rw [if_pos (by simpa using hnn)]
    exact wpS_pure (h n st g Low.rfl' n1 n2 r1)
  · rw [if_neg (by simpa using hnn)]
    have less := o1.resolve_left hnn
    by_cases hgt : n > 1
    · rw [if_pos hgt]
      refine wpS_bind (ltG g h0 (by omega) (by omega) ?_)
      by_cases rose : K (arrOf st) lo < K (arrOf st) (lo + n - 1)
      · rw [decide_eq_true rose]
        exact wpS_pure (h n st g Low.rfl' n1 n2 r1)
      · rw [decide_eq_false rose]
        dsimp only
        rw [if_neg (by decide)]
        have sz : lo + n ≤ (arrOf st).size := by rw [g.sz]; omega
        have all : ∀ k, lo ≤ k → k < lo + n → K (arrOf st) k = K (arrOf st) (lo + n - 1) := by
          intro k k1 k2
          have b1 := r1 lo k (Nat.le_refl _) k1 k2
          have b2 := r1 k (lo + n - 1) k1 (by omega) (by omega)
          omega
        refine wpS_bind (revG (wp_fallG h0 hn (by omega) (g.arr (mirror_perm _ _ _ _)) (fun i j a1 a2 a3 => ?_) fun m u g2 l2 => h m u g2 (l2.then (low_mirror sz (Nat.le_refl _)))))
        show K (mirror (arrOf st) _ _ _) j ≤ K (mirror (arrOf st) _ _ _) i
        rw [K_mirror_equal sz all, K_mirror_equal sz all]
        by_cases hj : j < lo + n
        · rw [all i a1 (by omega), all j (by omega) hj]; exact Int.le_refl _
        · have ej : j = lo + n := by omega
          by_cases ei : i = j
          · rw [ei]; exact Int.le_refl _
          · rw [all i a1 (by omega), ej]; exact Int.le_of_lt less
    · rw [if_neg hgt]
      have en : n = 1 := by omega
      subst en
      refine wp_fallG h0 hn (by omega) g (fun i j a1 a2 a3 => ?_) h
      by_cases ei : i = j
      · rw [ei]; exact Int.le_refl _
      · rw [show i = lo + 1 - 1 by omega, show j = lo + 1 by omega]
        exact Int.le_of_lt less
theorem wp_binG {st : SortSt} {lo n ok : Nat} {Q : Bool → SortSt → Prop} (h0 : IntKeys a₀) (hn : lo + n ≤ a₀.size) (hok : ok ≤ n) (g : SG a₀ p st) (hs : Ris (arrOf st) lo (lo + ok))
    (h : ∀ u, SG a₀ p u → Low (arrOf u) (arrOf st) lo → Ris (arrOf u) lo (lo + n) → Q true u) : wpS (model prog w) A E s (binarySort' lo n ok) Q st := by
  rw [binarySort'_eq]
  dsimp only
  refine wpS_bind (wpS_mono (wpS_forRange (I := fun k c u => c = (none, ()) ∧ SG a₀ p u ∧ Low (arrOf u) (arrOf st) lo ∧ Ris (arrOf u) lo (lo + min k n))
    (Q := fun c u => c = (none, ()) ∧ SG a₀ p u ∧ Low (arrOf u) (arrOf st) lo ∧ Ris (arrOf u) lo (lo + n)) ?step ?fin ?init) ?post)
  case post =>
    rintro c u ⟨rfl, g1, l1, r1⟩
    exact wpS_pure (h u g1 l1 r1)
  case init =>
    refine ⟨rfl, g, Low.rfl', ?_⟩
    by_cases e : ok = 0
    · exact Ris.one (by omega)
    · exact fun i j a1 a2 a3 => hs i j a1 a2 (by omega)
  case fin =>
    rintro c u ⟨hc, g1, l1, r1⟩
    exact ⟨hc, g1, l1, fun i j a1 a2 a3 => r1 i j a1 a2 (by omega)⟩
  case step =>
    rintro k c u ak kn ⟨rfl, g1, l1, r1⟩
    rw [Nat.min_eq_left (Nat.le_of_lt kn)] at r1
    try dsimp only
    refine wpS_bind (wpS_mono (wpS_forRange (I := fun x c v => v = u ∧ ∃ l r, c = (none, l, r) ∧ l ≤ r ∧ r ≤ k ∧ r - l ≤ k - x ∧
        (∀ i, lo ≤ i → i < lo + l → K (arrOf u) i ≤ K (arrOf u) (lo + k)) ∧ (∀ i, lo + r ≤ i → i < lo + k → K (arrOf u) (lo + k) < K (arrOf u) i))
      (Q := fun c v => v = u ∧ ∃ l r, c = (none, l, r) ∧ l ≤ k ∧
        (∀ i, lo ≤ i → i < lo + l → K (arrOf u) i ≤ K (arrOf u) (lo + k)) ∧ (∀ i, lo + l ≤ i → i < lo + k → K (arrOf u) (lo + k) < K (arrOf u) i)) ?istep ?ifin ?iinit) ?ipost)
    case iinit => exact ⟨rfl, 0, k, rfl, by omega, by omega, by omega, fun i _ _ => by omega, fun i _ _ => by omega⟩
    case ifin =>
      rintro c v ⟨rfl, l, r, rfl, b1, b2, b3, b4, b5⟩
      have e : l = r := by omega
      subst e
      exact ⟨rfl, l, l, rfl, b2, b4, b5⟩
    case istep =>
      rintro x c v _ xk ⟨rfl, l, r, rfl, b1, b2, b3, b4, b5⟩
      dsimp only
      by_cases ge : l ≥ r
      · rw [if_pos ge]
        have e : l = r := by omega
        subst e
        exact wpS_pure ⟨rfl, l, l, rfl, b2, b4, b5⟩
      · rw [if_neg ge]
        refine wpS_bind (ltG g1 h0 (by omega) (by omega) ?_)
        by_cases less : K (arrOf v) (lo + k) < K (arrOf v) (lo + (l + r) / 2)
        · rw [decide_eq_true less]
          refine wpS_pure ⟨rfl, l, (l + r) / 2, rfl, by omega, by omega, by omega, b4, fun i a1 a2 => ?_⟩
          exact Int.lt_of_lt_of_le less (r1 _ _ (by omega) a1 a2)
        · rw [decide_eq_false less]
          refine wpS_pure ⟨rfl, (l + r) / 2 + 1, r, rfl, by omega, by omega, by omega, fun i a1 a2 => ?_, b5⟩
          exact Int.le_trans (r1 i (lo + (l + r) / 2) a1 (by omega) (by omega)) (Int.not_lt.mp less)
    case ipost =>
      rintro c v ⟨rfl, l, r, rfl, b1, b2, b3⟩
      dsimp only
      rw [moveDown'_eq]
      have sz : lo + k < (arrOf v).size := by rw [g1.sz]; omega
      refine wpS_bind (wpS_modify (wpS_pure ⟨rfl, g1.arr (bubble_perm _ _ _), fun i hi => ?_, fun i j a1 a2 a3 => ?_⟩))
      · refine Eq.trans ?_ (l1 i hi)
        show K (bubble (arrOf v) (lo + k) (lo + k - (lo + l))) i = _
        rw [K_bubble sz (by omega), if_neg (by omega), if_neg (by omega)]
      · show K (bubble (arrOf v) (lo + k) (lo + k - (lo + l))) i ≤ K (bubble (arrOf v) (lo + k) (lo + k - (lo + l))) j
        rw [K_bubble sz (by omega), K_bubble sz (by omega), show lo + k - (lo + k - (lo + l)) = lo + l by omega]
        have a4 : j < lo + (k + 1) := by omega
        repeat' split
        all_goals first
          | (exfalso; omega)
          | exact Int.le_refl _
          | exact b2 _ (by omega) (by omega)
          | exact Int.le_of_lt (b3 _ (by omega) (by omega))
          | exact r1 _ _ (by omega) (by omega) (by omega)
end
end L2
namespace L2
open PySem PySem.Spec PyProof.Rows
def ky (q : Keyed) : Int := numOf q.1
theorem K_ky {xs : Array Keyed} {i : Nat} {q : Keyed} (h : xs[i]? = some q) : K xs i = ky q := by
  unfold K ky; rw [h]
structure Mg (a b out : Array Keyed) : Prop where
  pm : out.toList.Perm (a.toList ++ b.toList)
  so : (out.toList.map ky).Pairwise (· ≤ ·)
structure LoI (a b out : Array Keyed) (ia ib : Nat) : Prop where
  pm : out.toList.Perm (a.toList.take ia ++ b.toList.take ib)
  so : (out.toList.map ky).Pairwise (· ≤ ·)
  ba : ∀ o ∈ out.toList, ∀ i, ia ≤ i → i < a.size → ky o ≤ K a i
  bb : ∀ o ∈ out.toList, ∀ j, ib ≤ j → j < b.size → ky o ≤ K b j
theorem ext_list (a : Array Keyed) (i k : Nat) : (a.extract i (i + k)).toList = (a.toList.drop i).take k := by
  rw [Array.toList_extract, List.extract_eq_take_drop, Nat.add_sub_cancel_left]
theorem mem_piece {a : Array Keyed} {i k : Nat} {o : Keyed} (h : o ∈ (a.toList.drop i).take k) : ∃ j, i ≤ j ∧ j < i + k ∧ j < a.size ∧ ky o = K a j := by
  obtain ⟨n, hn, e⟩ := List.getElem_of_mem h
  rw [List.length_take, List.length_drop, Array.length_toList] at hn
  refine ⟨i + n, by omega, by omega, by omega, ?_⟩
  rw [K_ky (q := o)]
  rw [List.getElem_take, List.getElem_drop] at e
  rw [← e]
  simp only [Array.getElem_toList]
  rw [getElem?_pos a (i + n) (by omega)]
theorem piece_so {a : Array Keyed} (r : Ris a 0 a.size) (i k : Nat) : (((a.toList.drop i).take k).map ky).Pairwise (· ≤ ·) := by
  rw [List.pairwise_iff_getElem]
  intro m n hm hn hmn
  rw [List.length_map, List.length_take, List.length_drop, Array.length_toList] at hm hn
  rw [List.getElem_map, List.getElem_map, List.getElem_take, List.getElem_take, List.getElem_drop, List.getElem_drop]
  have h := r (i + m) (i + n) (by omega) (by omega) (by omega)
  rw [K_ky (getElem?_pos a (i + m) (by omega)), K_ky (getElem?_pos a (i + n) (by omega))] at h
  exact h
theorem take_piece (l : List Keyed) (i k : Nat) : l.take (i + k) = l.take i ++ (l.drop i).take k := by
  rw [List.take_add]
theorem LoI.takeA {a b out : Array Keyed} {ia ib k : Nat} (h : LoI a b out ia ib) (ra : Ris a 0 a.size) (rb : Ris b 0 b.size) (hb : ∀ i, ia ≤ i → i < ia + k → i < a.size → ib < b.size → K a i ≤ K b ib) :
    LoI a b (out ++ a.extract ia (ia + k)) (ia + k) ib := by
  refine ⟨?_, ?_, ?_, ?_⟩
  · rw [Array.toList_append, ext_list, take_piece]
    refine (h.pm.append_right _).trans ?_
    rw [List.append_assoc, List.append_assoc]
    exact List.Perm.append_left _ List.perm_append_comm
  · rw [Array.toList_append, ext_list, List.map_append, List.pairwise_append]
    refine ⟨h.so, piece_so ra _ _, fun x hx y hy => ?_⟩
    obtain ⟨o, ho, rfl⟩ := List.mem_map.mp hx
    obtain ⟨q, hq, rfl⟩ := List.mem_map.mp hy
    obtain ⟨j, j1, j2, j3, e⟩ := mem_piece hq
    rw [e]
    exact h.ba o ho j j1 j3
  · intro o ho i i1 i2
    rw [Array.toList_append, ext_list] at ho
    rcases List.mem_append.mp ho with ho | ho
    · exact h.ba o ho i (by omega) i2
    · obtain ⟨j, j1, j2, j3, e⟩ := mem_piece ho
      rw [e]
      exact ra j i (by omega) (by omega) i2
  · intro o ho i i1 i2
    rw [Array.toList_append, ext_list] at ho
    rcases List.mem_append.mp ho with ho | ho
    · exact h.bb o ho i i1 i2
    · obtain ⟨j, j1, j2, j3, e⟩ := mem_piece ho
      rw [e]
      exact Int.le_trans (hb j j1 j2 j3 (by omega)) (rb ib i (by omega) i1 i2)
theorem LoI.takeB {a b out : Array Keyed} {ia ib k : Nat} (h : LoI a b out ia ib) (ra : Ris a 0 a.size) (rb : Ris b 0 b.size) (hb : ∀ i, ib ≤ i → i < ib + k → i < b.size → ia < a.size → K b i ≤ K a ia) :
    LoI a b (out ++ b.extract ib (ib + k)) ia (ib + k) := by
  refine ⟨?_, ?_, ?_, ?_⟩
  · rw [Array.toList_append, ext_list, take_piece, ← List.append_assoc]
    exact h.pm.append_right _
  · rw [Array.toList_append, ext_list, List.map_append, List.pairwise_append]
    refine ⟨h.so, piece_so rb _ _, fun x hx y hy => ?_⟩
    obtain ⟨o, ho, rfl⟩ := List.mem_map.mp hx
    obtain ⟨q, hq, rfl⟩ := List.mem_map.mp hy
    obtain ⟨j, j1, j2, j3, e⟩ := mem_piece hq
    rw [e]
    exact h.bb o ho j j1 j3
  · intro o ho i i1 i2
    rw [Array.toList_append, ext_list] at ho
    rcases List.mem_append.mp ho with ho | ho
    · exact h.ba o ho i i1 i2
    · obtain ⟨j, j1, j2, j3, e⟩ := mem_piece ho
      rw [e]
      exact Int.le_trans (hb j j1 j2 j3 (by omega)) (ra ia i (by omega) i1 i2)
  · intro o ho i i1 i2
    rw [Array.toList_append, ext_list] at ho
    rcases List.mem_append.mp ho with ho | ho
    · exact h.bb o ho i (by omega) i2
    · obtain ⟨j, j1, j2, j3, e⟩ := mem_piece ho
      rw [e]
      exact rb j i (by omega) (by omega) i2
theorem push_ext {a out : Array Keyed} {i : Nat} {x : Keyed} (h : a[i]? = some x) : out.push x = out ++ a.extract i (i + 1) := by
  apply Array.ext'
  obtain ⟨hi, e⟩ := Array.getElem?_eq_some_iff.mp h
  rw [Array.toList_push, Array.toList_append, ext_list, List.drop_eq_getElem_cons (by rw [Array.length_toList]; exact hi)]
  rw [List.take_succ_cons, List.take_zero, Array.getElem_toList, e]
theorem LoI.fin {a b out : Array Keyed} (h : LoI a b out a.size b.size) : Mg a b out := by
  refine ⟨?_, h.so⟩
  have := h.pm
  rwa [List.take_of_length_le (by simp), List.take_of_length_le (by simp)] at this
theorem LoI.done {a b out : Array Keyed} {ia ib : Nat} (h : LoI a b out ia ib) (ra : Ris a 0 a.size) (rb : Ris b 0 b.size) (ha : ia ≤ a.size) (hb : ib = b.size) :
    Mg a b (out ++ a.extract ia a.size ++ b.extract ib b.size) := by
  have h1 := (h.takeA (k := a.size - ia) ra rb fun i _ _ _ hh => by omega).takeB (k := b.size - ib) ra rb fun i _ _ _ hh => by omega
  rw [show ia + (a.size - ia) = a.size by omega, show ib + (b.size - ib) = b.size by omega] at h1
  exact h1.fin
theorem LoI.lastA {a b out : Array Keyed} {ia ib : Nat} (h : LoI a b out ia ib) (ra : Ris a 0 a.size) (rb : Ris b 0 b.size) (ha : ia + 1 = a.size) (hb : ib ≤ b.size)
    (hl : ∀ j, j < b.size → K b j ≤ K a (a.size - 1)) : Mg a b (out ++ b.extract ib b.size ++ a.extract ia a.size) := by
  have h1 := (h.takeB (k := b.size - ib) ra rb fun i _ _ hi _ => by rw [show ia = a.size - 1 by omega]; exact hl i hi).takeA (k := a.size - ia) ra rb fun i _ _ _ hh => by omega
  rw [show ia + (a.size - ia) = a.size by omega, show ib + (b.size - ib) = b.size by omega] at h1
  exact h1.fin
structure HiI (a b o : Array Keyed) (na nb : Nat) : Prop where
  pm : o.toList.Perm (a.toList.drop na ++ b.toList.drop nb)
  so : (o.toList.map ky).Pairwise (· ≤ ·)
  ba : ∀ q ∈ o.toList, ∀ i, i < na → i < a.size → K a i ≤ ky q
  bb : ∀ q ∈ o.toList, ∀ j, j < nb → j < b.size → K b j ≤ ky q
theorem drop_piece (l : List Keyed) (i k : Nat) : l.drop i = (l.drop i).take k ++ l.drop (i + k) := by
  rw [← List.drop_drop, List.take_append_drop]
theorem HiI.takeA {a b o : Array Keyed} {na nb i k : Nat} (h : HiI a b o na nb) (e : na = i + k) (ra : Ris a 0 a.size) (rb : Ris b 0 b.size) (hn : nb ≤ b.size) (hb : ∀ j, i ≤ j → j < na → j < a.size → 0 < nb → K b (nb - 1) ≤ K a j) :
    HiI a b (a.extract i na ++ o) i nb := by
  subst e
  refine ⟨?_, ?_, ?_, ?_⟩
  · rw [Array.toList_append, ext_list]
    refine (List.Perm.append_left _ h.pm).trans ?_
    rw [← List.append_assoc, ← drop_piece]
  · rw [Array.toList_append, ext_list, List.map_append, List.pairwise_append]
    refine ⟨piece_so ra _ _, h.so, fun x hx y hy => ?_⟩
    obtain ⟨q, hq, rfl⟩ := List.mem_map.mp hx
    obtain ⟨p, hp, rfl⟩ := List.mem_map.mp hy
    obtain ⟨j, j1, j2, j3, e⟩ := mem_piece hq
    rw [e]
    exact h.ba p hp j j2 j3
  · intro q hq j j1 j2
    rw [Array.toList_append, ext_list] at hq
    rcases List.mem_append.mp hq with hq | hq
    · obtain ⟨m, m1, m2, m3, e⟩ := mem_piece hq
      rw [e]
      exact ra j m (by omega) (by omega) m3
    · exact h.ba q hq j (by omega) j2
  · intro q hq j j1 j2
    rw [Array.toList_append, ext_list] at hq
    rcases List.mem_append.mp hq with hq | hq
    · obtain ⟨m, m1, m2, m3, e⟩ := mem_piece hq
      rw [e]
      exact Int.le_trans (rb j (nb - 1) (by omega) (by omega) (by omega)) (hb m m1 m2 m3 (by omega))
    · exact h.bb q hq j j1 j2
theorem HiI.takeB {a b o : Array Keyed} {na nb i k : Nat} (h : HiI a b o na nb) (e : nb = i + k) (ra : Ris a 0 a.size) (rb : Ris b 0 b.size) (hn : na ≤ a.size) (hb : ∀ j, i ≤ j → j < nb → j < b.size → 0 < na → K a (na - 1) ≤ K b j) :
    HiI a b (b.extract i nb ++ o) na i := by
  subst e
  refine ⟨?_, ?_, ?_, ?_⟩
  · rw [Array.toList_append, ext_list]
    refine (List.Perm.append_left _ h.pm).trans ?_
    rw [drop_piece b.toList i k, ← List.append_assoc, ← List.append_assoc, ← drop_piece]
    exact List.Perm.append_right _ List.perm_append_comm
  · rw [Array.toList_append, ext_list, List.map_append, List.pairwise_append]
    refine ⟨piece_so rb _ _, h.so, fun x hx y hy => ?_⟩
    obtain ⟨q, hq, rfl⟩ := List.mem_map.mp hx
    obtain ⟨p, hp, rfl⟩ := List.mem_map.mp hy
    obtain ⟨j, j1, j2, j3, e⟩ := mem_piece hq
    rw [e]
    exact h.bb p hp j j2 j3
  · intro q hq j j1 j2
    rw [Array.toList_append, ext_list] at hq
    rcases List.mem_append.mp hq with hq | hq
    · obtain ⟨m, m1, m2, m3, e⟩ := mem_piece hq
      rw [e]
      exact Int.le_trans (ra j (na - 1) (by omega) (by omega) (by omega)) (hb m m1 m2 m3 (by omega))
    · exact h.ba q hq j j1 j2
  · intro q hq j j1 j2
    rw [Array.toList_append, ext_list] at hq
    rcases List.mem_append.mp hq with hq | hq
    · obtain ⟨m, m1, m2, m3, e⟩ := mem_piece hq
      rw [e]
      exact rb j m (by omega) (by omega) m3
    · exact h.bb q hq j (by omega) j2
theorem push_rev {a out : Array Keyed} {i : Nat} {x : Keyed} (h : a[i]? = some x) : (out.push x).reverse = a.extract i (i + 1) ++ out.reverse := by
  rw [push_ext h, Array.reverse_append]
  congr 1
  apply Array.ext'
  rw [Array.toList_reverse, ext_list]
  obtain ⟨hi, e⟩ := Array.getElem?_eq_some_iff.mp h
  rw [List.drop_eq_getElem_cons (by rw [Array.length_toList]; exact hi)]
  rw [List.take_succ_cons, List.take_zero]
  rfl
theorem rev_app (out x : Array Keyed) : (out ++ x.reverse).reverse = x ++ out.reverse := by
  rw [Array.reverse_append, Array.reverse_reverse]
theorem HiI.fin {a b o : Array Keyed} (h : HiI a b o 0 0) : Mg a b o := ⟨h.pm, h.so⟩
theorem HiI.done {a b o : Array Keyed} {na nb : Nat} (h : HiI a b o na nb) (ra : Ris a 0 a.size) (rb : Ris b 0 b.size) (ha : na = 0) (hb : nb ≤ b.size) :
    Mg a b (a.extract 0 na ++ b.extract 0 nb ++ o) := by
  have h1 := (h.takeB (i := 0) (k := nb) (by omega) ra rb (by omega) fun j _ _ _ hh => by omega).takeA (i := 0) (k := na) (by omega) ra rb (by omega) fun j _ _ _ hh => by omega
  rw [← Array.append_assoc] at h1
  exact h1.fin
theorem HiI.firstB {a b o : Array Keyed} {na nb : Nat} (h : HiI a b o na nb) (ra : Ris a 0 a.size) (rb : Ris b 0 b.size) (ha : na ≤ a.size) (hb : nb = 1) (hz : 0 < b.size)
    (hl : ∀ j, j < a.size → K b 0 ≤ K a j) : Mg a b (b.extract 0 nb ++ a.extract 0 na ++ o) := by
  subst hb
  have h1 := (h.takeA (i := 0) (k := na) (by omega) ra rb (by omega) fun j _ _ hj _ => hl j hj).takeB (i := 0) (k := 1) (by omega) ra rb (by omega) fun j _ _ _ hh => by omega
  rw [← Array.append_assoc] at h1
  exact h1.fin
end L2
namespace L2
open PySem PySem.Spec PyProof.Rows
def loX : Array Keyed → Array Keyed → StateT SortSt Sem (Array Keyed) := sortPriv% PySem.Builtin.mergeLo
def hiX : Array Keyed → Array Keyed → StateT SortSt Sem (Array Keyed) := sortPriv% PySem.Builtin.mergeHi
def setX : Nat → StateT SortSt Sem Unit := sortPriv% PySem.Builtin.setMinGallop
def IK (a : Array Keyed) : Prop := ∀ i, i < a.size → ∃ t q, a[i]? = some (.int (K a i) t, q)
structure SS (st u : SortSt) : Prop where
  ar : arrOf u = arrOf st
  pd : pendingOf u = pendingOf st
  kd : kindOf u = oneType'
  fl : failedOf u = none
section
variable {prog : Program} {w : World} {A : Around} {E : Value → Shared → Prop} {s : Shared}
theorem elemG {st : SortSt} {arr : Array Keyed} {i : Nat} {x : Keyed} {Q : Keyed → SortSt → Prop} (h : arr[i]? = some x) (q : Q x st) : wpS (model prog w) A E s (elem' arr i) Q st := by
  rw [elem'_eq, h]
  exact wpS_pure q
theorem setMG {st u : SortSt} {g : Nat} {Q : Unit → SortSt → Prop} (h : SS st u) (q : ∀ v, SS st v → Q () v) : wpS (model prog w) A E s (setX g) Q u := by
  unfold setX
  k_delta "setMinGallop"
  exact wpS_modify (q _ ⟨h.ar, h.pd, h.kd, h.fl⟩)
theorem galL {st u : SortSt} {arr : Array Keyed} {c : Int} {t : Tok} {q : Value} {base n hint : Nat} {Q : Option Nat → SortSt → Prop} (g : SS st u) (ik : IK arr) (hn : base + n ≤ arr.size) (r : Ris arr base (base + n)) (hh : hint < n)
    (h : ∀ k, k ≤ n → (∀ i, i < k → K arr (base + i) ≤ c) → (∀ i, k ≤ i → i < n → c < K arr (base + i)) → Q (some k) u) :
    wpS (model prog w) A E s (gallopX false (.int c t, q) arr base n hint) Q u := by
  refine gallop_any (fun i => !decide (c < K arr (base + i))) hh (fun i R hi hr => ?_) (fun i j hij hj e => ?_) fun k k1 k2 k3 => h k k1 (fun i hi => ?_) fun i i1 i2 => ?_
  · obtain ⟨t2, q2, e⟩ := ik (base + i) (by omega)
    refine wpS_bind (elemG e ?_)
    rw [if_neg (by decide)]
    exact wpS_bind (lt_ints g.kd (wpS_pure hr))
  · have := r (base + i) (base + j) (by omega) (by omega) (by omega)
    simp only [Bool.not_eq_true', decide_eq_false_iff_not] at e ⊢
    omega
  · have := k2 i hi
    simp only [Bool.not_eq_true', decide_eq_false_iff_not] at this
    omega
  · have := k3 i i1 i2
    simpa using this
theorem galR {st u : SortSt} {arr : Array Keyed} {c : Int} {t : Tok} {q : Value} {base n hint : Nat} {Q : Option Nat → SortSt → Prop} (g : SS st u) (ik : IK arr) (hn : base + n ≤ arr.size) (r : Ris arr base (base + n)) (hh : hint < n)
    (h : ∀ k, k ≤ n → (∀ i, i < k → K arr (base + i) < c) → (∀ i, k ≤ i → i < n → c ≤ K arr (base + i)) → Q (some k) u) :
    wpS (model prog w) A E s (gallopX true (.int c t, q) arr base n hint) Q u := by
  refine gallop_any (fun i => decide (K arr (base + i) < c)) hh (fun i R hi hr => ?_) (fun i j hij hj e => ?_) fun k k1 k2 k3 => h k k1 (fun i hi => ?_) fun i i1 i2 => ?_
  · obtain ⟨t2, q2, e⟩ := ik (base + i) (by omega)
    refine wpS_bind (elemG e ?_)
    rw [if_pos rfl]
    exact lt_ints g.kd hr
  · have := r (base + i) (base + j) (by omega) (by omega) (by omega)
    simp only [decide_eq_true_eq] at e ⊢
    omega
  · simpa using k2 i hi
  · have := k3 i i1 i2
    simp only [decide_eq_false_iff_not] at this
    omega
theorem Ris.sub {xs : Array Keyed} {a b c d : Nat} (r : Ris xs a b) (h1 : a ≤ c) (h2 : d ≤ b) : Ris xs c d := fun i j x y z => r i j (by omega) y (by omega)
theorem wp_lo {a b : Array Keyed} {st u : SortSt} {Q : Array Keyed → SortSt → Prop} (g : SS st u) (ia : IK a) (ib : IK b) (ra : Ris a 0 a.size) (rb : Ris b 0 b.size) (za : 0 < a.size) (zb : 0 < b.size)
    (hf : ∀ i, i < a.size → K b 0 ≤ K a i) (hl : ∀ j, j < b.size → K b j < K a (a.size - 1))
    (h : ∀ out v, SS st v → Mg a b out → Q out v) : wpS (model prog w) A E s (loX a b) Q u := by
  unfold loX
  k_delta "mergeLo"
  dsimp only
  refine wpS_bind (wpS_lift (wpAny_rule ⟨rfl, ?_⟩))
  obtain ⟨t0, q0, e0⟩ := ib 0 zb
  refine wpS_bind (elemG e0 ?_)
  have L0 : LoI a b #[(.int (K b 0) t0, q0)] 0 1 := by
    have := (LoI.takeB (a := a) (b := b) (out := #[]) (ia := 0) (ib := 0) (k := 1) ⟨by simp, by simp, by simp, by simp⟩ ra rb fun i i1 i2 i3 i4 => by rw [show i = 0 by omega]; exact hf 0 i4)
    rw [← push_ext e0] at this
    exact this
  by_cases b1 : 1 = b.size
  · rw [if_pos (by simpa using b1)]
    exact wpS_pure (h _ _ g (L0.done ra rb (by omega) b1))
  rw [if_neg (by simpa using b1)]
  by_cases a1 : 0 + 1 = a.size
  · rw [if_pos (by simpa using a1)]
    exact wpS_pure (h _ _ g (L0.lastA ra rb a1 (by omega) fun j hj => Int.le_of_lt (hl j hj)))
  rw [if_neg (by simpa using a1)]
  refine wpS_bind (wpS_get ?_)
  refine wpS_bind (wpS_mono (wpS_forRange (I := fun x c v => SS st v ∧ ∃ out i j m, c = (none, out, i, j, m) ∧ LoI a b out i j ∧ i + 1 < a.size ∧ j < b.size ∧ x + 1 ≤ i + j)
    (Q := fun c v => SS st v ∧ ∃ r out i j m, c = (some r, out, i, j, m) ∧ Mg a b r) ?step ?fin ⟨g, _, 0, 1, _, rfl, L0, by omega, by omega, by omega⟩) ?post)
  case post =>
    rintro c v ⟨g', r, out, i, j, m, rfl, hm⟩
    exact wpS_pure (h r v g' hm)
  case fin =>
    rintro c v ⟨g', out, i, j, m, rfl, L, x1, x2, x3⟩
    exfalso
    omega
  case step =>
    rintro x c v _ xn ⟨g1, out, i, j, m, rfl, L, x1, x2, x3⟩
    dsimp only
    refine wpS_bind (wpS_mono (wpS_forRange (I := fun y c v => SS st v ∧ ∃ out i' j' ac bc, c = (none, out, i', j', ac, bc) ∧ LoI a b out i' j' ∧ i' + 1 < a.size ∧ j' < b.size ∧ i + j + y ≤ i' + j')
      (Q := fun c v => SS st v ∧ ∃ o out i' j' ac bc, c = (o, out, i', j', ac, bc) ∧ ((∃ r, o = some r ∧ Mg a b r) ∨ (o = none ∧ LoI a b out i' j' ∧ i' + 1 < a.size ∧ j' < b.size ∧ i + j + 1 ≤ i' + j'))) ?step1 ?fin1 ⟨g1, out, i, j, 0, 0, rfl, L, x1, x2, by omega⟩) ?post1)
    case fin1 =>
      rintro c v ⟨g', out, i', j', ac, bc, rfl, L', y1, y2, y3⟩
      exact ⟨g', _, out, i', j', ac, bc, rfl, .inr ⟨rfl, L', y1, y2, by omega⟩⟩
    case step1 =>
      rintro y c v _ yn ⟨g2, out, i', j', ac, bc, rfl, L', y1, y2, y3⟩
      dsimp only
      obtain ⟨tb, qb, eb⟩ := ib j' y2
      obtain ⟨ta, qa, ea⟩ := ia i' (by omega)
      refine wpS_bind (elemG eb ?_)
      refine wpS_bind (elemG ea ?_)
      refine wpS_bind (lt_ints g2.kd ?_)
      by_cases less : K b j' < K a i'
      · rw [decide_eq_true less]
        dsimp only
        rw [if_pos rfl]
        refine wpS_bind (elemG eb ?_)
        have L2 := L'.takeB (k := 1) ra rb fun n n1 n2 n3 n4 => by rw [show n = j' by omega]; exact Int.le_of_lt less
        rw [← push_ext eb] at L2
        by_cases eb1 : j' + 1 = b.size
        · rw [if_pos (by simpa using eb1)]
          exact wpS_pure ⟨g2, _, _, _, _, _, _, rfl, .inl ⟨_, rfl, L2.done ra rb (by omega) eb1⟩⟩
        · rw [if_neg (by simpa using eb1)]
          split
          · exact wpS_pure ⟨g2, _, _, _, _, _, _, rfl, .inr ⟨rfl, L2, y1, by omega, by omega⟩⟩
          · exact wpS_pure ⟨g2, _, _, _, _, _, rfl, L2, y1, by omega, by omega⟩
      · rw [decide_eq_false less]
        dsimp only
        rw [if_neg (by decide)]
        refine wpS_bind (elemG ea ?_)
        have L2 := L'.takeA (k := 1) ra rb fun n n1 n2 n3 n4 => by rw [show n = i' by omega]; omega
        rw [← push_ext ea] at L2
        by_cases ea1 : i' + 1 + 1 = a.size
        · rw [if_pos (by simpa using ea1)]
          exact wpS_pure ⟨g2, _, _, _, _, _, _, rfl, .inl ⟨_, rfl, L2.lastA ra rb ea1 (by omega) fun j hj => Int.le_of_lt (hl j hj)⟩⟩
        · rw [if_neg (by simpa using ea1)]
          split
          · exact wpS_pure ⟨g2, _, _, _, _, _, _, rfl, .inr ⟨rfl, L2, by omega, y2, by omega⟩⟩
          · exact wpS_pure ⟨g2, _, _, _, _, _, rfl, L2, by omega, y2, by omega⟩
    case post1 =>
      rintro c v ⟨g2, o, out, i', j', ac, bc, rfl, (⟨r, rfl, hm⟩ | ⟨rfl, L', y1, y2, y3⟩)⟩
      · exact wpS_pure ⟨g2, _, _, _, _, _, rfl, hm⟩
      dsimp only
      refine wpS_bind (wpS_lift (wpAny_rule ⟨rfl, ?_⟩))
      refine wpS_bind (wpS_mono (wpS_forRange (I := fun y c v => SS st v ∧ ∃ out i' j' mg ac bc, c = (none, out, i', j', mg, ac, bc) ∧ LoI a b out i' j' ∧ i' + 1 < a.size ∧ j' < b.size ∧ i + j + 1 ≤ i' + j')
        (Q := fun c v => SS st v ∧ ∃ o out i' j' mg ac bc, c = (o, out, i', j', mg, ac, bc) ∧ ((∃ r, o = some r ∧ Mg a b r) ∨ (o = none ∧ LoI a b out i' j' ∧ i' + 1 < a.size ∧ j' < b.size ∧ i + j + 1 ≤ i' + j'))) ?step2 ?fin2 ⟨g2, out, i', j', _, ac, bc, rfl, L', y1, y2, y3⟩) ?post2)
      case fin2 =>
        rintro c v ⟨g', out, i', j', mg, ac, bc, rfl, L', y1, y2, y3⟩
        exact ⟨g', _, out, i', j', mg, ac, bc, rfl, .inr ⟨rfl, L', y1, y2, y3⟩⟩
      case post2 =>
        rintro c v ⟨g3, o, out, i', j', mg, ac, bc, rfl, (⟨r, rfl, hm⟩ | ⟨rfl, L', y1, y2, y3⟩)⟩
        · exact wpS_pure ⟨g3, _, _, _, _, _, rfl, hm⟩
        dsimp only
        refine wpS_bind (setMG g3 fun v2 g4 => ?_)
        exact wpS_pure ⟨g4, _, _, _, _, rfl, L', y1, y2, by omega⟩
      case step2 =>
        rintro y c v _ yn ⟨g3, out, i', j', mg, ac, bc, rfl, L', y1, y2, y3⟩
        dsimp only
        obtain ⟨tb, qb, eb⟩ := ib j' y2
        by_cases hmg : mg > 1
        case' pos => rw [if_pos hmg]
        case' neg => rw [if_neg hmg]
        all_goals
          refine wpS_bind (setMG g3 fun v2 g4 => ?_)
          refine wpS_bind (elemG eb ?_)
          refine wpS_bind (galL g4 ia (by omega) (ra.sub (by omega) (by omega)) (by omega) fun k k1 k2 k3 => ?_)
          dsimp only
          have kz : i' + k < a.size := by
            apply Classical.byContradiction
            intro hk
            have e1 := k2 (a.size - 1 - i') (by omega)
            rw [show i' + (a.size - 1 - i') = a.size - 1 by omega] at e1
            have e2 := hl j' y2
            omega
          have kl : K b j' < K a (i' + k) := k3 k (Nat.le_refl _) (by omega)
          have L2 := L'.takeA (k := k) ra rb fun n n1 n2 n3 n4 => by
            have := k2 (n - i') (by omega)
            rwa [show i' + (n - i') = n by omega] at this
          by_cases hk : k > 0
          case' pos =>
            rw [if_pos hk]
            by_cases ea1 : i' + k + 1 = a.size
            · rw [if_pos (by simpa using ea1)]
              exact wpS_pure ⟨g4, _, _, _, _, _, _, _, rfl, .inl ⟨_, rfl, L2.lastA ra rb ea1 (by omega) fun j hj => Int.le_of_lt (hl j hj)⟩⟩
            rw [if_neg (by simpa using ea1), if_neg (by simp only [beq_iff_eq]; omega)]
            have I1 : i' + k + 1 < a.size := by omega
            have I2 : i + j + 1 ≤ i' + k + j' := by omega
            clear k1 k2 k3 L' y1 y3
            generalize i' + k = I at *
            generalize out ++ a.extract i' I = O at *
          case' neg =>
            rw [if_neg hk]
            have e : k = 0 := by omega
            subst e
            clear L2
            have L2 := L'
            have I1 := y1
            have I2 := y3
            rw [Nat.add_zero] at kl kz
            clear k1 k2 k3 L' y1 y3
            generalize i' = I at *
            generalize out = O at *
          all_goals
            refine wpS_bind (elemG eb ?_)
            have L3 := L2.takeB (k := 1) ra rb fun n n1 n2 n3 n4 => by rw [show n = j' by omega]; exact Int.le_of_lt kl
            rw [← push_ext eb] at L3
            by_cases eb1 : j' + 1 = b.size
            · rw [if_pos (by simpa using eb1)]
              exact wpS_pure ⟨g4, _, _, _, _, _, _, _, rfl, .inl ⟨_, rfl, L3.done ra rb (by omega) eb1⟩⟩
            rw [if_neg (by simpa using eb1)]
            obtain ⟨ta, qa, ea⟩ := ia I (by omega)
            refine wpS_bind (elemG ea ?_)
            refine wpS_bind (galR g4 ib (by omega) (rb.sub (by omega) (by omega)) (by omega) fun m m1 m2 m3 => ?_)
            dsimp only
            have L4 := L3.takeB (k := m) ra rb fun n n1 n2 n3 n4 => by
              have := m2 (n - (j' + 1)) (by omega)
              rw [show j' + 1 + (n - (j' + 1)) = n by omega] at this
              exact Int.le_of_lt this
            by_cases hm : m > 0
            case' pos =>
              rw [if_pos hm]
              by_cases eb2 : j' + 1 + m = b.size
              · rw [if_pos (by simpa using eb2)]
                exact wpS_pure ⟨g4, _, _, _, _, _, _, _, rfl, .inl ⟨_, rfl, L4.done ra rb (by omega) eb2⟩⟩
              rw [if_neg (by simpa using eb2)]
              have L5 := L4.takeA (k := 1) ra rb fun n n1 n2 n3 n4 => by
                rw [show n = I by omega]; exact m3 m (Nat.le_refl _) (by omega)
            case' neg =>
              rw [if_neg hm]
              have e : m = 0 := by omega
              subst e
              have L5 := L3.takeA (k := 1) ra rb fun n n1 n2 n3 n4 => by
                rw [show n = I by omega]; exact m3 0 (Nat.le_refl _) (by omega)
            all_goals
              refine wpS_bind (elemG ea ?_)
              rw [← push_ext ea] at L5
              by_cases ea2 : I + 1 + 1 = a.size
              · rw [if_pos (by simpa using ea2)]
                exact wpS_pure ⟨g4, _, _, _, _, _, _, _, rfl, .inl ⟨_, rfl, L5.lastA ra rb ea2 (by omega) fun j hj => Int.le_of_lt (hl j hj)⟩⟩
              rw [if_neg (by simpa using ea2)]
              split
              · exact wpS_pure ⟨g4, _, _, _, _, _, _, _, rfl, .inr ⟨rfl, L5, by omega, by omega, by omega⟩⟩
              · exact wpS_pure ⟨g4, _, _, _, _, _, _, rfl, L5, by omega, by omega, by omega⟩
end
end L2
namespace L2
open PySem PySem.Spec PyProof.Rows
section
variable {prog : Program} {w : World} {A : Around} {E : Value → Shared → Prop} {s : Shared}
theorem wp_hi {a b : Array Keyed} {st u : SortSt} {Q : Array Keyed → SortSt → Prop} (g : SS st u) (ia : IK a) (ib : IK b) (ra : Ris a 0 a.size) (rb : Ris b 0 b.size) (za : 0 < a.size) (zb : 0 < b.size)
    (hf : ∀ i, i < a.size → K b 0 < K a i) (hl : ∀ j, j < b.size → K b j < K a (a.size - 1))
    (h : ∀ out v, SS st v → Mg a b out → Q out v) : wpS (model prog w) A E s (hiX a b) Q u := by
  unfold hiX
  k_delta "mergeHi"
  dsimp only
  refine wpS_bind (wpS_lift (wpAny_rule ⟨rfl, ?_⟩))
  obtain ⟨t0, q0, e0⟩ := ia (a.size - 1) (by omega)
  refine wpS_bind (elemG e0 ?_)
  have hf' : ∀ j, j < a.size → K b 0 ≤ K a j := fun j hj => Int.le_of_lt (hf j hj)
  have L0 : HiI a b (Array.reverse #[(.int (K a (a.size - 1)) t0, q0)]) (a.size - 1) b.size := by
    have := (HiI.takeA (a := a) (b := b) (o := (#[] : Array Keyed).reverse) (na := a.size) (nb := b.size) (i := a.size - 1) (k := 1) ⟨by simp, by simp, by simp, by simp⟩ (by omega) ra rb (by omega) fun j i1 i2 i3 i4 => by rw [show j = a.size - 1 by omega]; exact Int.le_of_lt (hl _ (by omega)))
    have e1 := push_rev (out := #[]) e0
    rw [show a.size - 1 + 1 = a.size by omega] at e1
    rw [← e1] at this
    exact this
  by_cases a1 : a.size - 1 = 0
  · rw [if_pos (by simpa using a1)]
    exact wpS_pure (h _ _ g (L0.done ra rb a1 (by omega)))
  rw [if_neg (by simpa using a1)]
  by_cases b1 : b.size = 1
  · rw [if_pos (by simpa using b1)]
    exact wpS_pure (h _ _ g (L0.firstB ra rb (by omega) b1 zb hf'))
  rw [if_neg (by simpa using b1)]
  refine wpS_bind (wpS_get ?_)
  refine wpS_bind (wpS_mono (wpS_forRange (I := fun x c v => SS st v ∧ ∃ i j out m, c = (none, i, j, out, m) ∧ HiI a b out.reverse i j ∧ 0 < i ∧ i ≤ a.size ∧ 1 < j ∧ j ≤ b.size ∧ i + j + x + 1 ≤ a.size + b.size)
    (Q := fun c v => SS st v ∧ ∃ r i j out m, c = (some r, i, j, out, m) ∧ Mg a b r) ?step ?fin ⟨g, _, _, _, _, rfl, L0, by omega, by omega, by omega, by omega, by omega⟩) ?post)
  case post =>
    rintro c v ⟨g', r, i, j, out, m, rfl, hm⟩
    exact wpS_pure (h r v g' hm)
  case fin =>
    rintro c v ⟨g', i, j, out, m, rfl, L, x1, x2, x3, x4, x5⟩
    exfalso
    omega
  case step =>
    rintro x c v _ xn ⟨g1, i, j, out, m, rfl, L, x1, x2, x3, x4, x5⟩
    dsimp only
    refine wpS_bind (wpS_mono (wpS_forRange (I := fun y c v => SS st v ∧ ∃ i' j' out ac bc, c = (none, i', j', out, ac, bc) ∧ HiI a b out.reverse i' j' ∧ 0 < i' ∧ i' ≤ a.size ∧ 1 < j' ∧ j' ≤ b.size ∧ i' + j' + y ≤ i + j)
      (Q := fun c v => SS st v ∧ ∃ o i' j' out ac bc, c = (o, i', j', out, ac, bc) ∧ ((∃ r, o = some r ∧ Mg a b r) ∨ (o = none ∧ HiI a b out.reverse i' j' ∧ 0 < i' ∧ i' ≤ a.size ∧ 1 < j' ∧ j' ≤ b.size ∧ i' + j' + 1 ≤ i + j))) ?step1 ?fin1 ⟨g1, i, j, out, 0, 0, rfl, L, x1, x2, x3, x4, by omega⟩) ?post1)
    case fin1 =>
      rintro c v ⟨g', i', j', out, ac, bc, rfl, L', y1, y2, y3, y4, y5⟩
      exact ⟨g', _, i', j', out, ac, bc, rfl, .inr ⟨rfl, L', y1, y2, y3, y4, by omega⟩⟩
    case step1 =>
      rintro y c v _ yn ⟨g2, i', j', out, ac, bc, rfl, L', y1, y2, y3, y4, y5⟩
      dsimp only
      obtain ⟨tb, qb, eb⟩ := ib (j' - 1) (by omega)
      obtain ⟨ta, qa, ea⟩ := ia (i' - 1) (by omega)
      refine wpS_bind (elemG eb ?_)
      refine wpS_bind (elemG ea ?_)
      refine wpS_bind (lt_ints g2.kd ?_)
      by_cases less : K b (j' - 1) < K a (i' - 1)
      · rw [decide_eq_true less]
        dsimp only
        rw [if_pos rfl]
        refine wpS_bind (elemG ea ?_)
        have L2 := L'.takeA (i := i' - 1) (k := 1) (by omega) ra rb y4 fun n n1 n2 n3 n4 => by rw [show n = i' - 1 by omega]; exact Int.le_of_lt less
        have e1 := push_rev (out := out) ea
        rw [show i' - 1 + 1 = i' by omega] at e1
        rw [← e1] at L2
        by_cases ea1 : i' - 1 = 0
        · rw [if_pos (by simpa using ea1)]
          exact wpS_pure ⟨g2, _, _, _, _, _, _, rfl, .inl ⟨_, rfl, L2.done ra rb ea1 y4⟩⟩
        · rw [if_neg (by simpa using ea1)]
          split
          · exact wpS_pure ⟨g2, _, _, _, _, _, _, rfl, .inr ⟨rfl, L2, by omega, by omega, y3, y4, by omega⟩⟩
          · exact wpS_pure ⟨g2, _, _, _, _, _, rfl, L2, by omega, by omega, y3, y4, by omega⟩
      · rw [decide_eq_false less]
        dsimp only
        rw [if_neg (by decide)]
        refine wpS_bind (elemG eb ?_)
        have L2 := L'.takeB (i := j' - 1) (k := 1) (by omega) ra rb y2 fun n n1 n2 n3 n4 => by rw [show n = j' - 1 by omega]; omega
        have e1 := push_rev (out := out) eb
        rw [show j' - 1 + 1 = j' by omega] at e1
        rw [← e1] at L2
        by_cases eb1 : j' - 1 = 1
        · rw [if_pos (by simpa using eb1)]
          exact wpS_pure ⟨g2, _, _, _, _, _, _, rfl, .inl ⟨_, rfl, L2.firstB ra rb y2 eb1 zb hf'⟩⟩
        · rw [if_neg (by simpa using eb1)]
          split
          · exact wpS_pure ⟨g2, _, _, _, _, _, _, rfl, .inr ⟨rfl, L2, y1, y2, by omega, by omega, by omega⟩⟩
          · exact wpS_pure ⟨g2, _, _, _, _, _, rfl, L2, y1, y2, by omega, by omega, by omega⟩
    case post1 =>
      rintro c v ⟨g2, o, i', j', out, ac, bc, rfl, (⟨r, rfl, hm⟩ | ⟨rfl, L', y1, y2, y3, y4, y5⟩)⟩
      · exact wpS_pure ⟨g2, _, _, _, _, _, rfl, hm⟩
      dsimp only
      refine wpS_bind (wpS_lift (wpAny_rule ⟨rfl, ?_⟩))
      refine wpS_bind (wpS_mono (wpS_forRange (I := fun y c v => SS st v ∧ ∃ i' j' out mg ac bc, c = (none, i', j', out, mg, ac, bc) ∧ HiI a b out.reverse i' j' ∧ 0 < i' ∧ i' ≤ a.size ∧ 1 < j' ∧ j' ≤ b.size ∧ i' + j' + 1 ≤ i + j)
        (Q := fun c v => SS st v ∧ ∃ o i' j' out mg ac bc, c = (o, i', j', out, mg, ac, bc) ∧ ((∃ r, o = some r ∧ Mg a b r) ∨ (o = none ∧ HiI a b out.reverse i' j' ∧ 0 < i' ∧ i' ≤ a.size ∧ 1 < j' ∧ j' ≤ b.size ∧ i' + j' + 1 ≤ i + j))) ?step2 ?fin2 ⟨g2, i', j', out, _, ac, bc, rfl, L', y1, y2, y3, y4, y5⟩) ?post2)
      case fin2 =>
        rintro c v ⟨g', i', j', out, mg, ac, bc, rfl, L', y1, y2, y3, y4, y5⟩
        exact ⟨g', _, i', j', out, mg, ac, bc, rfl, .inr ⟨rfl, L', y1, y2, y3, y4, y5⟩⟩
      case post2 =>
        rintro c v ⟨g3, o, i', j', out, mg, ac, bc, rfl, (⟨r, rfl, hm⟩ | ⟨rfl, L', y1, y2, y3, y4, y5⟩)⟩
        · exact wpS_pure ⟨g3, _, _, _, _, _, rfl, hm⟩
        dsimp only
        refine wpS_bind (setMG g3 fun v2 g4 => ?_)
        exact wpS_pure ⟨g4, _, _, _, _, rfl, L', y1, y2, y3, y4, by omega⟩
      case step2 =>
        rintro y c v _ yn ⟨g3, i', j', out, mg, ac, bc, rfl, L', y1, y2, y3, y4, y5⟩
        dsimp only
        obtain ⟨tb, qb, eb⟩ := ib (j' - 1) (by omega)
        by_cases hmg : mg > 1
        case' pos => rw [if_pos hmg]
        case' neg => rw [if_neg hmg]
        all_goals
          refine wpS_bind (setMG g3 fun v2 g4 => ?_)
          refine wpS_bind (elemG eb ?_)
          refine wpS_bind (galL g4 ia (by omega) (ra.sub (by omega) (by omega)) (by omega) fun k k1 k2 k3 => ?_)
          dsimp only
          simp only [Nat.zero_add] at k2 k3
          have kl : 0 < k → K a (k - 1) ≤ K b (j' - 1) := fun hk => k2 (k - 1) (by omega)
          have L2 := L'.takeA (i := k) (k := i' - k) (by omega) ra rb y4 fun n n1 n2 n3 n4 => Int.le_of_lt (k3 n n1 n2)
          rw [← rev_app] at L2
          by_cases hk : i' - k > 0
          case' pos =>
            rw [if_pos hk]
            by_cases ea1 : k = 0
            · rw [if_pos (by simpa using ea1)]
              exact wpS_pure ⟨g4, _, _, _, _, _, _, _, rfl, .inl ⟨_, rfl, L2.done ra rb ea1 y4⟩⟩
            rw [if_neg (by simpa using ea1)]
            have kl := kl (by omega)
            have I1 : 0 < k := by omega
            have I2 : k ≤ a.size := by omega
            have I3 : k + j' + 1 ≤ i + j := by omega
            clear k2 k3 L' y1 y5
            generalize i' - k = ct at *
            generalize out ++ (a.extract k i').reverse = O at *
          case' neg =>
            rw [if_neg hk]
            have e : k = i' := by omega
            have I1 := y1
            have I2 := y2
            have I3 := y5
            subst e
            have kl := kl (by omega)
            clear L2
            have L2 := L'
            clear k2 k3 L' y1 y5
            generalize out = O at *
            generalize k - k = ct at *
          all_goals
            refine wpS_bind (elemG eb ?_)
            have L3 := L2.takeB (i := j' - 1) (k := 1) (by omega) ra rb I2 fun n n1 n2 n3 n4 => by rw [show n = j' - 1 by omega]; exact kl
            have e1 := push_rev (out := O) eb
            rw [show j' - 1 + 1 = j' by omega] at e1
            rw [← e1] at L3
            by_cases eb1 : j' - 1 = 1
            · rw [if_pos (by simpa using eb1)]
              exact wpS_pure ⟨g4, _, _, _, _, _, _, _, rfl, .inl ⟨_, rfl, L3.firstB ra rb I2 eb1 zb hf'⟩⟩
            rw [if_neg (by simpa using eb1)]
            obtain ⟨ta, qa, ea⟩ := ia (k - 1) (by omega)
            refine wpS_bind (elemG ea ?_)
            refine wpS_bind (galR g4 ib (by omega) (rb.sub (by omega) (by omega)) (by omega) fun m m1 m2 m3 => ?_)
            dsimp only
            simp only [Nat.zero_add] at m2 m3
            have mz : 0 < m := by
              apply Classical.byContradiction
              intro hm
              have := m3 0 (by omega) (by omega)
              have := hf (k - 1) (by omega)
              omega
            have L4 := L3.takeB (i := m) (k := j' - 1 - m) (by omega) ra rb I2 fun n n1 n2 n3 n4 => m3 n n1 n2
            rw [← rev_app] at L4
            have e2 := push_rev (a := a) (out := O.push (.int (K b (j' - 1)) tb, qb)) ea
            by_cases hm : j' - 1 - m > 0
            case' pos =>
              rw [if_pos hm]
              by_cases eb2 : m = 1
              · rw [if_pos (by simpa using eb2)]
                exact wpS_pure ⟨g4, _, _, _, _, _, _, _, rfl, .inl ⟨_, rfl, L4.firstB ra rb I2 eb2 zb hf'⟩⟩
              rw [if_neg (by simpa using eb2), if_neg (by simp only [beq_iff_eq]; omega)]
              have L5 := L4.takeA (i := k - 1) (k := 1) (by omega) ra rb (by omega) fun n n1 n2 n3 n4 => by
                rw [show n = k - 1 by omega]; exact Int.le_of_lt (m2 (m - 1) (by omega))
              have J1 : 1 < m := by omega
              have J2 : m ≤ b.size := by omega
              have J3 : k - 1 + m + 1 ≤ i + j := by omega
              generalize O.push (Value.int (K b (j' - 1)) tb, qb) ++ (b.extract m (j' - 1)).reverse = O2 at *
              generalize j' - 1 - m = ct2 at *
            case' neg =>
              rw [if_neg hm]
              have e : m = j' - 1 := by omega
              have L5 := L3.takeA (i := k - 1) (k := 1) (by omega) ra rb (by omega) fun n n1 n2 n3 n4 => by
                rw [show n = k - 1 by omega]
                have := m2 (j' - 1 - 1) (by omega)
                exact Int.le_of_lt this
              have J1 : 1 < j' - 1 := by omega
              have J2 : j' - 1 ≤ b.size := by omega
              have J3 : k - 1 + (j' - 1) + 1 ≤ i + j := by omega
              generalize O.push (Value.int (K b (j' - 1)) tb, qb) = O2 at *
              generalize j' - 1 - m = ct2 at *
            all_goals
              refine wpS_bind (elemG ea ?_)
              have e3 := push_rev (out := O2) ea
              rw [show k - 1 + 1 = k by omega] at e3
              rw [← e3] at L5
              by_cases ea2 : k - 1 = 0
              · rw [if_pos (by simpa using ea2)]
                exact wpS_pure ⟨g4, _, _, _, _, _, _, _, rfl, .inl ⟨_, rfl, L5.done ra rb ea2 (by omega)⟩⟩
              rw [if_neg (by simpa using ea2)]
              split
              · exact wpS_pure ⟨g4, _, _, _, _, _, _, _, rfl, .inr ⟨rfl, L5, by omega, by omega, by omega, by omega, by omega⟩⟩
              · exact wpS_pure ⟨g4, _, _, _, _, _, _, rfl, L5, by omega, by omega, by omega, by omega, by omega⟩
end
end L2
namespace L2
open PySem PySem.Spec PyProof.Rows
theorem ris_iff {xs : Array Keyed} {a n : Nat} (h : a + n ≤ xs.size) : Ris xs a (a + n) ↔ (((xs.toList.drop a).take n).map ky).Pairwise (· ≤ ·) := by
  rw [List.pairwise_iff_getElem]
  have hk : ∀ i (hi : i < (((xs.toList.drop a).take n).map ky).length), (((xs.toList.drop a).take n).map ky)[i] = K xs (a + i) := by
    intro i hi
    rw [List.length_map, List.length_take, List.length_drop, Array.length_toList] at hi
    rw [List.getElem_map, List.getElem_take, List.getElem_drop, K_ky (getElem?_pos xs (a + i) (by omega))]
    rfl
  constructor
  · intro r i j hi hj hij
    rw [hk i hi, hk j hj]
    rw [List.length_map, List.length_take, List.length_drop, Array.length_toList] at hi hj
    exact r _ _ (by omega) (by omega) (by omega)
  · intro r i j h1 h2 h3
    by_cases e : i = j
    · rw [e]; exact Int.le_refl _
    · have hl : (((xs.toList.drop a).take n).map ky).length = n := by
        rw [List.length_map, List.length_take, List.length_drop, Array.length_toList]; omega
      have := r (i - a) (j - a) (by omega) (by omega) (by omega)
      rw [hk, hk, show a + (i - a) = i by omega, show a + (j - a) = j by omega] at this
      exact this
theorem fold_set (base : Nat) : ∀ (l : List Keyed) (n : Nat) (xs : Array Keyed), base + n + l.length ≤ xs.size →
    ((l.zipIdx n).foldl (fun a x => a.setIfInBounds (base + x.snd) x.fst) xs).toList = xs.toList.take (base + n) ++ l ++ xs.toList.drop (base + n + l.length)
  | [], n, xs, h => by simp
  | x :: l, n, xs, h => by
    rw [List.length_cons] at h
    rw [List.zipIdx_cons, List.foldl_cons, fold_set base l (n + 1) _ (by rw [Array.size_setIfInBounds]; omega)]
    dsimp only
    rw [Array.toList_setIfInBounds, List.length_cons]
    have e1 : (xs.toList.set (base + n) x).take (base + (n + 1)) = xs.toList.take (base + n) ++ [x] := by
      apply List.ext_getElem?
      intro i
      rw [List.getElem?_take, List.getElem?_set, List.getElem?_append, List.getElem?_take]
      have hl : (xs.toList.take (base + n)).length = base + n := by rw [List.length_take, Array.length_toList]; omega
      rw [hl]
      by_cases c1 : i < base + n
      · rw [if_pos (by omega), if_neg (by omega), if_pos c1, if_pos c1]
      · by_cases c2 : i = base + n
        · subst c2
          rw [if_pos (by omega), if_pos rfl, if_neg c1, Nat.sub_self, if_pos (by rw [Array.length_toList]; omega)]
          rfl
        · rw [if_neg (by omega), if_neg c1]
          obtain ⟨d, hd⟩ : ∃ d, i - (base + n) = d + 1 := ⟨i - (base + n) - 1, by omega⟩
          rw [hd]
          simp
    have e2 : (xs.toList.set (base + n) x).drop (base + (n + 1) + l.length) = xs.toList.drop (base + n + (l.length + 1)) := by
      rw [List.drop_set_of_lt (by omega)]
      congr 1
      omega
    rw [e1, e2]
    simp
theorem ext_get {xs : Array Keyed} {a b i : Nat} (hb : b ≤ xs.size) (hi : i < b - a) : (xs.extract a b)[i]? = xs[a + i]? := by
  rw [Array.getElem?_extract, if_pos (by omega)]
theorem K_ext {xs : Array Keyed} {a b i : Nat} (hb : b ≤ xs.size) (hi : i < b - a) : K (xs.extract a b) i = K xs (a + i) := K_congr (ext_get hb hi)
theorem ext_size {xs : Array Keyed} {a b : Nat} (hb : b ≤ xs.size) : (xs.extract a b).size = b - a := by
  rw [Array.size_extract]; omega
theorem ik_ext {xs : Array Keyed} {a b : Nat} (ik : IK xs) (hb : b ≤ xs.size) : IK (xs.extract a b) := by
  intro i hi
  rw [ext_size hb] at hi
  obtain ⟨t, q, e⟩ := ik (a + i) (by omega)
  exact ⟨t, q, by rw [ext_get hb hi, K_ext hb hi]; exact e⟩
theorem ris_ext {xs : Array Keyed} {a b : Nat} (r : Ris xs a b) (hb : b ≤ xs.size) : Ris (xs.extract a b) 0 (xs.extract a b).size := by
  intro i j h1 h2 h3
  rw [ext_size hb] at h3
  rw [K_ext hb (by omega), K_ext hb h3]
  exact r _ _ (by omega) (by omega) (by omega)
theorem list_parts (L : List Keyed) {i j k : Nat} (h1 : i ≤ j) (h2 : j ≤ k) : L = L.take i ++ ((L.drop i).take (j - i) ++ (L.drop j).take (k - j)) ++ L.drop k := by
  have e1 : L.drop i = (L.drop i).take (j - i) ++ L.drop j := by
    have := drop_piece L i (j - i)
    rwa [show i + (j - i) = j by omega] at this
  have e2 : L.drop j = (L.drop j).take (k - j) ++ L.drop k := by
    have := drop_piece L j (k - j)
    rwa [show j + (k - j) = k by omega] at this
  calc L = L.take i ++ L.drop i := (List.take_append_drop i L).symm
    _ = L.take i ++ ((L.drop i).take (j - i) ++ ((L.drop j).take (k - j) ++ L.drop k)) := by rw [← e2, ← e1]
    _ = _ := by simp only [List.append_assoc]
theorem merged_in {xs ys : Array Keyed} {M : Array Keyed} {sa sb na nb i k : Nat} (h1 : sa ≤ i) (h2 : i ≤ sb) (h3 : sb ≤ k) (h4 : k ≤ sb + nb) (h5 : sb = sa + na) (hz : sb + nb ≤ xs.size)
    (m : Mg (xs.extract i sb) (xs.extract sb k) M) (e : ys.toList = xs.toList.take i ++ M.toList ++ xs.toList.drop k)
    (ra : Ris xs sa sb) (rb : Ris xs sb (sb + nb)) (lo : ∀ j, sa ≤ j → j < i → ∀ j', sb ≤ j' → j' < sb + nb → K xs j ≤ K xs j') (hi : ∀ j, sa ≤ j → j < sb → ∀ j', k ≤ j' → j' < sb + nb → K xs j ≤ K xs j') :
    ys.Perm xs ∧ Ris ys sa (sb + nb) ∧ (∀ j, j < sa ∨ sb + nb ≤ j → K ys j = K xs j) := by
  have ex : (xs.extract i sb).toList = (xs.toList.drop i).take (sb - i) := by
    have := ext_list xs i (sb - i)
    rwa [show i + (sb - i) = sb by omega] at this
  have ey : (xs.extract sb k).toList = (xs.toList.drop sb).take (k - sb) := by
    have := ext_list xs sb (k - sb)
    rwa [show sb + (k - sb) = k by omega] at this
  have mp := m.pm
  rw [ex, ey] at mp
  have ml : M.toList.length = k - i := by
    rw [mp.length_eq, List.length_append, List.length_take, List.length_take, List.length_drop, List.length_drop, Array.length_toList]
    omega
  have pm : ys.toList.Perm xs.toList := by
    rw [e]
    conv => rhs; rw [list_parts xs.toList h2 h3]
    exact (mp.append_left _).append_right _
  have ysz : ys.size = xs.size := by rw [← Array.length_toList, ← Array.length_toList]; exact pm.length_eq
  refine ⟨Array.perm_iff_toList_perm.mpr pm, ?_, ?_⟩
  · rw [show sb + nb = sa + (na + nb) by omega, ris_iff (by omega)]
    have el : (ys.toList.drop sa).take (na + nb) = (xs.toList.drop sa).take (i - sa) ++ (M.toList ++ (xs.toList.drop k).take (sb + nb - k)) := by
      rw [e, List.append_assoc, List.drop_append, List.take_append]
      have z : (xs.toList.take i).length = i := by rw [List.length_take, Array.length_toList]; omega
      rw [z, show sa - i = 0 by omega, List.drop_zero, List.drop_take, List.take_take]
      rw [List.length_take, List.length_drop, Array.length_toList, show min (na + nb) (i - sa) = i - sa by omega, show na + nb - min (i - sa) (xs.size - sa) = na + nb - (i - sa) by omega]
      congr 1
      rw [List.take_append, ml]
      rw [List.take_of_length_le (by omega), show na + nb - (i - sa) - (k - i) = sb + nb - k by omega]
    have mem : ∀ q ∈ M.toList, (∃ j, i ≤ j ∧ j < sb ∧ ky q = K xs j) ∨ (∃ j, sb ≤ j ∧ j < k ∧ ky q = K xs j) := by
      intro q hq
      rcases List.mem_append.mp (mp.mem_iff.mp hq) with hq | hq
      · obtain ⟨j, j1, j2, j3, e⟩ := mem_piece hq
        exact .inl ⟨j, j1, by omega, e⟩
      · obtain ⟨j, j1, j2, j3, e⟩ := mem_piece hq
        exact .inr ⟨j, j1, by omega, e⟩
    rw [el, List.map_append, List.map_append, List.pairwise_append, List.pairwise_append]
    refine ⟨(ris_iff (by omega)).mp (ra.sub (Nat.le_refl _) (by omega)), ⟨m.so, ?_, ?_⟩, ?_⟩
    · exact (ris_iff (by omega)).mp (rb.sub h3 (by omega))
    · intro x hx y hy
      obtain ⟨q, hq, rfl⟩ := List.mem_map.mp hx
      obtain ⟨p, hp, rfl⟩ := List.mem_map.mp hy
      obtain ⟨j', a1, a2, a3, e'⟩ := mem_piece hp
      rw [e']
      rcases mem q hq with ⟨j, j1, j2, e⟩ | ⟨j, j1, j2, e⟩
      · rw [e]; exact hi j (by omega) j2 j' a1 (by omega)
      · rw [e]; exact rb j j' j1 (by omega) (by omega)
    · intro x hx y hy
      obtain ⟨q, hq, rfl⟩ := List.mem_map.mp hx
      rw [← List.map_append] at hy
      obtain ⟨p, hp, rfl⟩ := List.mem_map.mp hy
      obtain ⟨j, j1, j2, j3, e⟩ := mem_piece hq
      rw [e]
      rcases List.mem_append.mp hp with hp | hp
      · rcases mem p hp with ⟨j', a1, a2, e'⟩ | ⟨j', a1, a2, e'⟩
        · rw [e']; exact ra j j' j1 (by omega) a2
        · rw [e']; exact lo j j1 (by omega) j' a1 (by omega)
      · obtain ⟨j', a1, a2, a3, e'⟩ := mem_piece hp
        rw [e']; exact lo j j1 (by omega) j' (by omega) (by omega)
  · intro j hj
    apply K_congr
    rw [← Array.getElem?_toList, ← Array.getElem?_toList, e]
    rcases hj with hj | hj
    · rw [List.append_assoc, List.getElem?_append_left (by rw [List.length_take, Array.length_toList]; omega), List.getElem?_take, if_pos (by omega)]
    · rw [List.getElem?_append_right (by rw [List.length_append, List.length_take, Array.length_toList, ml]; omega), List.length_append, List.length_take, Array.length_toList, ml, List.getElem?_drop]
      congr 1
      omega
section
variable {prog : Program} {w : World} {A : Around} {E : Value → Shared → Prop} {s : Shared} {a₀ : Array Keyed} {p : Array (Nat × Nat × Nat)}
theorem wpSet {σ : Type} {st x : σ} {Q : PUnit → σ → Prop} (h : Q ⟨⟩ x) : wpS (model prog w) A E s (set x : StateT σ Sem PUnit) Q st := by
  unfold wpS; rw [StateT.run_set]; exact wpAny_pure ⟨rfl, h⟩
theorem wp_at {st : SortSt} {i sa na sb nb w1 w2 : Nat} {Q : Bool → SortSt → Prop} (h0 : IntKeys a₀) (g : SG a₀ p st) (e1 : p[i]? = some (sa, na, w1)) (e2 : p[i + 1]? = some (sb, nb, w2))
    (h5 : sb = sa + na) (hz : sb + nb ≤ a₀.size) (za : 0 < na) (zb : 0 < nb) (ra : Ris (arrOf st) sa sb) (rb : Ris (arrOf st) sb (sb + nb))
    (h : ∀ v, SG a₀ ((p.setIfInBounds i (sa, na + nb, w1)).eraseIdxIfInBounds (i + 1)) v → Ris (arrOf v) sa (sb + nb) → (∀ j, j < sa ∨ sb + nb ≤ j → K (arrOf v) j = K (arrOf st) j) → Q true v) :
    wpS (model prog w) A E s (mergeAt' i) Q st := by
  unfold mergeAt'
  k_delta "mergeAt"
  dsimp only
  refine wpS_bind (wpS_get ?_)
  have hp := g.pd
  have sz := g.sz
  have ik : IK (arrOf st) := fun j hj => g.get h0 (by omega)
  obtain ⟨tb, qb, eb⟩ := ik sb (by omega)
  obtain ⟨ta, qa, ea⟩ := ik (sb - 1) (by omega)
  have o1 : (pendingOf st)[i]? = some (sa, na, w1) := by rw [hp]; exact e1
  have o2 : (pendingOf st)[i + 1]? = some (sb, nb, w2) := by rw [hp]; exact e2
  show wpS _ _ _ _ (match ((pendingOf st)[i]?, (pendingOf st)[i + 1]?) with | (some (sa, na, power), some (sb, nb, snd)) => _ | _ => _) _ _
  rw [o1, o2]
  dsimp only
  refine wpS_bind (wpSet ?_)
  have hp2 : ((pendingOf st).setIfInBounds i (sa, na + nb, w1)).eraseIdxIfInBounds (i + 1) = (p.setIfInBounds i (sa, na + nb, w1)).eraseIdxIfInBounds (i + 1) := by rw [hp]
  have g2 : SG a₀ ((p.setIfInBounds i (sa, na + nb, w1)).eraseIdxIfInBounds (i + 1)) (SortSt.mk' (kindOf st) (arrOf st) (((pendingOf st).setIfInBounds i (sa, na + nb, w1)).eraseIdxIfInBounds (i + 1)) (gallopOf st) (failedOf st)) := ⟨g.pm, g.kd, g.fl, hp2⟩
  have s2 : SS (SortSt.mk' (kindOf st) (arrOf st) (((pendingOf st).setIfInBounds i (sa, na + nb, w1)).eraseIdxIfInBounds (i + 1)) (gallopOf st) (failedOf st)) (SortSt.mk' (kindOf st) (arrOf st) (((pendingOf st).setIfInBounds i (sa, na + nb, w1)).eraseIdxIfInBounds (i + 1)) (gallopOf st) (failedOf st)) := ⟨rfl, rfl, g.kd, g.fl⟩
  refine wpS_bind (elemG eb ?_)
  refine wpS_bind (galL (arr := arrOf st) s2 ik (by omega) (by rw [← h5]; exact ra) (by omega) fun k k1 k2 k3 => ?_)
  dsimp only
  by_cases kn : na - k = 0
  · rw [if_pos (by simpa using kn)]
    refine wpS_pure (h _ g2 (fun j j' a1 a2 a3 => ?_) fun _ _ => rfl)
    by_cases c1 : j' < sb
    · exact ra j j' a1 a2 c1
    · by_cases c2 : j < sb
      · have := k2 (j - sa) (by omega)
        rw [show sa + (j - sa) = j by omega] at this
        exact Int.le_trans this (rb sb j' (Nat.le_refl _) (by omega) a3)
      · exact rb j j' (by omega) a2 a3
  rw [if_neg (by simpa using kn)]
  rw [show sa + k + (na - k) - 1 = sb - 1 by omega]
  refine wpS_bind (elemG ea ?_)
  refine wpS_bind (galR (arr := arrOf st) s2 ik (by omega) rb (by omega) fun m m1 m2 m3 => ?_)
  dsimp only
  by_cases mz : m = 0
  · rw [if_pos (by simpa using mz)]
    refine wpS_pure (h _ g2 (fun j j' a1 a2 a3 => ?_) fun _ _ => rfl)
    by_cases c1 : j' < sb
    · exact ra j j' a1 a2 c1
    · by_cases c2 : j < sb
      · have := m3 (j' - sb) (by omega) (by omega)
        rw [show sb + (j' - sb) = j' by omega] at this
        exact Int.le_trans (ra j (sb - 1) a1 (by omega) (by omega)) this
      · exact rb j j' (by omega) a2 a3
  rw [if_neg (by simpa using mz)]
  have zx : ((arrOf st).extract (sa + k) sb).size = sb - (sa + k) := ext_size (by omega)
  have zy : ((arrOf st).extract sb (sb + m)).size = m := by rw [ext_size (by omega)]; omega
  have kk : ∀ j, sa + k ≤ j → j < sb → K (arrOf st) sb < K (arrOf st) j := fun j j1 j2 => by
    have := k3 (j - sa) (by omega) (by omega)
    rwa [show sa + (j - sa) = j by omega] at this
  have mm : ∀ j, sb ≤ j → j < sb + m → K (arrOf st) j < K (arrOf st) (sb - 1) := fun j j1 j2 => by
    have := m2 (j - sb) (by omega)
    rwa [show sb + (j - sb) = j by omega] at this
  have hf : ∀ j, j < ((arrOf st).extract (sa + k) sb).size → K ((arrOf st).extract sb (sb + m)) 0 < K ((arrOf st).extract (sa + k) sb) j := fun j hj => by
    rw [K_ext (by omega) (by omega), K_ext (by omega) (by omega)]
    exact kk _ (by omega) (by omega)
  have hl : ∀ j, j < ((arrOf st).extract sb (sb + m)).size → K ((arrOf st).extract sb (sb + m)) j < K ((arrOf st).extract (sa + k) sb) (((arrOf st).extract (sa + k) sb).size - 1) := fun j hj => by
    rw [K_ext (by omega) (by omega), K_ext (by omega) (by omega), zx, show sa + k + (sb - (sa + k) - 1) = sb - 1 by omega]
    exact mm _ (by omega) (by omega)
  have fin : ∀ M v, SS (SortSt.mk' (kindOf st) (arrOf st) (((pendingOf st).setIfInBounds i (sa, na + nb, w1)).eraseIdxIfInBounds (i + 1)) (gallopOf st) (failedOf st)) v → Mg ((arrOf st).extract (sa + k) sb) ((arrOf st).extract sb (sb + m)) M →
      Q true (setArr v (M.toList.zipIdx.foldl (fun a x => a.setIfInBounds (sa + k + x.snd) x.fst) (arrOf v))) := by
    intro M v sv mg
    have ml : M.toList.length = sb - (sa + k) + m := by
      rw [mg.pm.length_eq, List.length_append, Array.length_toList, Array.length_toList, zx, zy]
    have ar : arrOf v = arrOf st := sv.ar
    have el := fold_set (sa + k) M.toList 0 (arrOf v) (by rw [ar, ml]; omega)
    rw [ar, Nat.add_zero, ml, show sa + k + (sb - (sa + k) + m) = sb + m by omega] at el
    have r := merged_in (by omega) (by omega) (by omega) (by omega) h5 (by omega) mg el ra rb (fun j a1 a2 j' a3 a4 => ?_) (fun j a1 a2 j' a3 a4 => ?_)
    · have e4 : arrOf (setArr v (M.toList.zipIdx.foldl (fun a x => a.setIfInBounds (sa + k + x.snd) x.fst) (arrOf v))) = M.toList.zipIdx.foldl (fun a x => a.setIfInBounds (sa + k + x.snd) x.fst) (arrOf st) := by
        show M.toList.zipIdx.foldl (fun a x => a.setIfInBounds (sa + k + x.snd) x.fst) (arrOf v) = _
        rw [ar]
      refine h _ ⟨?_, sv.kd, sv.fl, sv.pd.trans hp2⟩ ?_ ?_
      · rw [e4]; exact r.1.trans g.pm
      · rw [e4]; exact r.2.1
      · rw [e4]; exact r.2.2
    · have := k2 (j - sa) (by omega)
      rw [show sa + (j - sa) = j by omega] at this
      exact Int.le_trans this (rb sb j' (Nat.le_refl _) a3 a4)
    · have := m3 (j' - sb) (by omega) (by omega)
      rw [show sb + (j' - sb) = j' by omega] at this
      exact Int.le_trans (ra j (sb - 1) a1 (by omega) (by omega)) this
  have isn : ∀ v, SS (SortSt.mk' (kindOf st) (arrOf st) (((pendingOf st).setIfInBounds i (sa, na + nb, w1)).eraseIdxIfInBounds (i + 1)) (gallopOf st) (failedOf st)) v → ∀ xs, (failedOf (setArr v xs)).isNone = true := fun v sv xs => by
    show (failedOf v).isNone = true
    rw [sv.fl]; rfl
  by_cases c : na - k ≤ m
  · rw [if_pos c]
    refine wpS_bind (wp_lo (a := (arrOf st).extract (sa + k) sb) (b := (arrOf st).extract sb (sb + m)) s2 (ik_ext ik (by omega)) (ik_ext ik (by omega)) (ris_ext (ra.sub (by omega) (by omega)) (by omega)) (ris_ext (rb.sub (by omega) (by omega)) (by omega)) (by omega) (by omega) (fun j hj => Int.le_of_lt (hf j hj)) hl fun M v sv mg => ?_)
    refine wpS_bind (wpS_modify (wpS_bind (wpS_get ?_)))
    have := wpS_pure (M := model prog w) (A := A) (E := E) (s := s) (fin M v sv mg)
    rw [← isn v sv] at this
    exact this
  · rw [if_neg c]
    refine wpS_bind (wp_hi (a := (arrOf st).extract (sa + k) sb) (b := (arrOf st).extract sb (sb + m)) s2 (ik_ext ik (by omega)) (ik_ext ik (by omega)) (ris_ext (ra.sub (by omega) (by omega)) (by omega)) (ris_ext (rb.sub (by omega) (by omega)) (by omega)) (by omega) (by omega) hf hl fun M v sv mg => ?_)
    refine wpS_bind (wpS_modify (wpS_bind (wpS_get ?_)))
    have := wpS_pure (M := model prog w) (A := A) (E := E) (s := s) (fin M v sv mg)
    rw [← isn v sv] at this
    exact this
end
end L2
namespace L2
open PySem PySem.Spec PyProof.Rows
def pr (q : Nat × Nat × Nat) : Nat × Nat := (q.1, q.2.1)
def Runs (xs : Array Keyed) : List (Nat × Nat) → Nat → Nat → Prop
  | [], lo, hi => lo = hi
  | (b, n) :: r, lo, hi => b = lo ∧ 1 ≤ n ∧ Ris xs lo (lo + n) ∧ Runs xs r (lo + n) hi
theorem Runs.len {xs : Array Keyed} : ∀ {l : List (Nat × Nat)} {lo hi : Nat}, Runs xs l lo hi → lo + l.length ≤ hi
  | [], lo, hi, h => by cases h; simp
  | (b, n) :: r, lo, hi, h => by
    have := h.2.2.2.len
    have := h.2.1
    rw [List.length_cons]; omega
theorem Runs.app {xs : Array Keyed} : ∀ {l r : List (Nat × Nat)} {lo hi : Nat}, Runs xs (l ++ r) lo hi ↔ ∃ m, Runs xs l lo m ∧ Runs xs r m hi
  | [], r, lo, hi => ⟨fun h => ⟨lo, rfl, h⟩, fun ⟨m, e, h⟩ => by cases e; exact h⟩
  | (b, n) :: l, r, lo, hi => by
    constructor
    · rintro ⟨h1, h2, h3, h4⟩
      obtain ⟨m, a, b⟩ := Runs.app.mp h4
      exact ⟨m, ⟨h1, h2, h3, a⟩, b⟩
    · rintro ⟨m, ⟨h1, h2, h3, h4⟩, h5⟩
      exact ⟨h1, h2, h3, Runs.app.mpr ⟨m, h4, h5⟩⟩
theorem Ris.same {xs ys : Array Keyed} {a b : Nat} (r : Ris xs a b) (h : ∀ k, a ≤ k → k < b → K ys k = K xs k) : Ris ys a b := fun i j h1 h2 h3 => by
  rw [h i h1 (by omega), h j (by omega) h3]; exact r i j h1 h2 h3
theorem Runs.same {xs ys : Array Keyed} : ∀ {l : List (Nat × Nat)} {lo hi : Nat}, Runs xs l lo hi → (∀ k, lo ≤ k → k < hi → K ys k = K xs k) → Runs ys l lo hi
  | [], lo, hi, h, _ => h
  | (b, n) :: r, lo, hi, h, e => ⟨h.1, h.2.1, h.2.2.1.same fun k k1 k2 => e k k1 (by have := h.2.2.2.len; omega), h.2.2.2.same fun k k1 k2 => e k (by omega) k2⟩
theorem erase_list {p : Array (Nat × Nat × Nat)} {i : Nat} {x y z : Nat × Nat × Nat} {l r : List (Nat × Nat × Nat)} (e : p.toList = l ++ x :: y :: r) (hl : l.length = i) :
    ((p.setIfInBounds i z).eraseIdxIfInBounds (i + 1)).toList = l ++ z :: r := by
  have hs : (p.setIfInBounds i z).toList = l ++ z :: y :: r := by
    rw [Array.toList_setIfInBounds, e, ← hl, List.set_append_right _ _ (Nat.le_refl _), Nat.sub_self]
    rfl
  have hz : i + 1 < (p.setIfInBounds i z).size := by
    rw [← Array.length_toList, hs, List.length_append, hl]
    simp
  unfold Array.eraseIdxIfInBounds
  rw [dif_pos hz, Array.toList_eraseIdx, hs, ← hl, List.eraseIdx_append_of_length_le (by omega), Nat.add_sub_cancel_left]
  rfl
section
variable {prog : Program} {w : World} {A : Around} {E : Value → Shared → Prop} {s : Shared} {a₀ : Array Keyed}
theorem wp_join {st : SortSt} {p : Array (Nat × Nat × Nat)} {i hi : Nat} {Q : Bool → SortSt → Prop} (h0 : IntKeys a₀) (g : SG a₀ p st) (r : Runs (arrOf st) (p.toList.map pr) 0 hi) (hh : hi ≤ a₀.size) (hi2 : i + 1 < p.size)
    (h : ∀ v p', SG a₀ p' v → Runs (arrOf v) (p'.toList.map pr) 0 hi → p'.size + 1 = p.size → (∀ k, hi ≤ k → K (arrOf v) k = K (arrOf st) k) → Q true v) :
    wpS (model prog w) A E s (mergeAt' i) Q st := by
  obtain ⟨sa, na, w1, e1⟩ : ∃ sa na w1, p[i]? = some (sa, na, w1) := ⟨_, _, _, getElem?_pos p i (by omega)⟩
  obtain ⟨sb, nb, w2, e2⟩ : ∃ sb nb w2, p[i + 1]? = some (sb, nb, w2) := ⟨_, _, _, getElem?_pos p (i + 1) hi2⟩
  have ep : p.toList = p.toList.take i ++ (sa, na, w1) :: (sb, nb, w2) :: p.toList.drop (i + 2) := by
    conv => lhs; rw [← List.take_append_drop i p.toList]
    congr 1
    have l1 : i < p.toList.length := by rw [Array.length_toList]; omega
    have l2 : i + 1 < p.toList.length := by rw [Array.length_toList]; omega
    rw [List.drop_eq_getElem_cons l1, List.drop_eq_getElem_cons l2]
    have g1 : p.toList[i] = (sa, na, w1) := by
      have := Array.getElem?_toList (xs := p) (i := i)
      rw [e1, List.getElem?_eq_getElem l1] at this
      exact Option.some.inj this
    have g2 : p.toList[i + 1] = (sb, nb, w2) := by
      have := Array.getElem?_toList (xs := p) (i := i + 1)
      rw [e2, List.getElem?_eq_getElem l2] at this
      exact Option.some.inj this
    rw [g1, g2]
  have ll : (p.toList.take i).length = i := by rw [List.length_take, Array.length_toList]; omega
  have r1 := r
  rw [ep, List.map_append, List.map_cons, List.map_cons] at r1
  obtain ⟨m, ra, rb1, rb2, rb3, rc1, rc2, rc3, rd⟩ := Runs.app.mp r1
  have rb1' : sa = m := rb1
  have rc1' : sb = m + na := rc1
  have rb2' : 1 ≤ na := rb2
  have rc2' : 1 ≤ nb := rc2
  subst rb1'
  have hd := rd.len
  have hl := ra.len
  have hd' : sa + na + nb + (List.map pr (List.drop (i + 2) p.toList)).length ≤ hi := hd
  refine wp_at h0 g e1 e2 rc1' (by omega) (by omega) (by omega) (by rw [rc1']; exact rb3) (by rw [rc1']; exact rc3) fun v gv rv kv => ?_
  refine h v _ gv ?_ ?_ fun k hk => kv k (.inr (by omega))
  · rw [erase_list ep ll, List.map_append, List.map_cons]
    refine Runs.app.mpr ⟨sa, ra.same fun k _ k2 => kv k (.inl k2), rfl, (show 1 ≤ na + nb by omega), ?_, ?_⟩
    · show Ris (arrOf v) sa (sa + (na + nb))
      rw [← Nat.add_assoc, ← rc1']
      exact rv
    · show Runs (arrOf v) _ (sa + (na + nb)) hi
      rw [← Nat.add_assoc]
      exact rd.same fun k k1 k2 => kv k (.inr (by rw [rc1']; exact k1))
  · have e3 := congrArg List.length (erase_list (z := (sa, na + nb, w1)) ep ll)
    have e4 := congrArg List.length ep
    rw [Array.length_toList, List.length_append, ll] at e3 e4
    rw [List.length_cons] at e3
    rw [List.length_cons, List.length_cons] at e4
    omega
theorem map_modify (p : Array (Nat × Nat × Nat)) (i x : Nat) : (p.modify i fun q => (q.1, q.2.1, x)).toList.map pr = p.toList.map pr := by
  apply List.ext_getElem?
  intro k
  rw [List.getElem?_map, List.getElem?_map, Array.getElem?_toList, Array.getElem?_toList, Array.getElem?_modify]
  split
  · cases p[k]? <;> rfl
  · rfl
theorem wp_sortG {st : SortSt} {Q : Unit → SortSt → Prop} (h0 : IntKeys a₀) (g : SG a₀ #[] st) (h2 : 2 ≤ a₀.size)
    (h : ∀ v, (arrOf v).Perm a₀ → failedOf v = none → SortedTo (arrOf v) a₀.size → Q () v) : wpS (model prog w) A E s sortRuns' Q st := by
  rw [sortRuns'_eq]
  dsimp only
  refine wpS_bind (wpS_get ?_)
  rw [g.sz]
  generalize minRun' a₀.size a₀.size 0 = mr
  refine wpS_bind (wpS_mono (wpS_forRange (I := fun x c v => ∃ lo p, c = (none, lo) ∧ SG a₀ p v ∧ Runs (arrOf v) (p.toList.map pr) 0 lo ∧ lo ≤ a₀.size ∧ x ≤ lo)
    (Q := fun c v => ∃ p, c = (none, a₀.size) ∧ SG a₀ p v ∧ Runs (arrOf v) (p.toList.map pr) 0 a₀.size) ?step ?fin ⟨0, #[], rfl, g, rfl, by omega, by omega⟩) ?post)
  case fin =>
    rintro c v ⟨lo, p, rfl, gv, r, l1, l2⟩
    have e : lo = a₀.size := by omega
    subst e
    exact ⟨p, rfl, gv, r⟩
  case post =>
    rintro c v ⟨p, rfl, gv, r⟩
    dsimp only
    refine wpS_bind (wpS_mono (wpS_forRange (I := fun x c u => c = (none, ()) ∧ ∃ p, SG a₀ p u ∧ Runs (arrOf u) (p.toList.map pr) 0 a₀.size ∧ (p.size ≤ 1 ∨ p.size + x ≤ a₀.size))
      (Q := fun c u => c = (none, ()) ∧ ∃ p, SG a₀ p u ∧ Runs (arrOf u) (p.toList.map pr) 0 a₀.size ∧ p.size ≤ 1) ?_ ?_ ⟨rfl, p, gv, r, .inr ?_⟩) ?_)
    · rintro x c u _ xn ⟨rfl, p, gu, r, z⟩
      refine wpS_bind (wpS_get ?_)
      have ep : pendingOf u = p := gu.pd
      rw [ep]
      by_cases c1 : p.size ≤ 1
      · rw [if_pos c1]
        exact wpS_pure ⟨rfl, p, gu, r, c1⟩
      rw [if_neg c1]
      have bnd : ∀ b : Bool, (if b = true then p.size - 2 - 1 else p.size - 2) + 1 < p.size := fun b => by cases b <;> simp <;> omega
      refine wpS_bind (wp_join h0 gu r (Nat.le_refl _) (bnd _) fun u2 p2 g2 r2 z2 _ => ?_)
      exact wpS_pure ⟨rfl, p2, g2, r2, .inr (by omega)⟩
    · rintro c u ⟨rfl, p, gu, r, z⟩
      exact ⟨rfl, p, gu, r, by omega⟩
    · have := r.len
      rw [List.length_map, Array.length_toList] at this
      omega
    · rintro c u ⟨rfl, p, gu, r, z⟩
      refine wpS_pure (h u gu.pm gu.fl fun i j hij hj => ?_)
      have hz : p.toList.length ≤ 1 := by rw [Array.length_toList]; exact z
      generalize p.toList = l at r hz
      cases l with
      | nil =>
        have : 0 = a₀.size := r
        omega
      | cons q t =>
        cases t with
        | nil =>
          obtain ⟨r1, r2, r3, r4⟩ := r
          have r4' : 0 + q.2.1 = a₀.size := r4
          exact r3 i j (by omega) hij (by omega)
        | cons q2 t => simp at hz
  case step =>
    rintro x c v _ xn ⟨lo, p, rfl, gv, r, l1, l2⟩
    dsimp only
    by_cases c1 : lo ≥ a₀.size
    · rw [if_pos c1]
      have e : lo = a₀.size := by omega
      subst e
      exact wpS_pure ⟨p, rfl, gv, r⟩
    rw [if_neg c1]
    have push : ∀ N (u : SortSt) (q : Array (Nat × Nat × Nat)), SG a₀ q u → Runs (arrOf u) (q.toList.map pr) 0 lo → Ris (arrOf u) lo (lo + N) → 1 ≤ N → lo + N ≤ a₀.size →
        ∃ lo' q', (none, lo + N) = ((none, lo') : Option Unit × Nat) ∧ SG a₀ q' (setPending u ((pendingOf u).push (lo, N, 0))) ∧ Runs (arrOf (setPending u ((pendingOf u).push (lo, N, 0)))) (q'.toList.map pr) 0 lo' ∧ lo' ≤ a₀.size ∧ x + 1 ≤ lo' := by
      intro N u q gq rq rn n1 n2
      refine ⟨lo + N, q.push (lo, N, 0), rfl, ⟨gq.pm, gq.kd, gq.fl, ?_⟩, ?_, n2, by omega⟩
      · show (pendingOf u).push _ = _
        rw [gq.pd]
      · rw [Array.toList_push, List.map_append]
        exact Runs.app.mpr ⟨lo, rq, rfl, n1, rn, rfl⟩
    refine wpS_bind (wp_countG h0 (by omega) (by omega) gv fun m u gu lu m1 m2 rm => ?_)
    dsimp only
    have ru : Runs (arrOf u) (p.toList.map pr) 0 lo := r.same fun k _ k2 => lu k k2
    by_cases hm : m < mr
    case' pos =>
      rw [if_pos hm]
      refine wpS_bind (wpS_lift (wpAny_rule ⟨rfl, ?_⟩))
      refine wpS_bind (wp_binG h0 (n := min (a₀.size - lo) mr) (by omega) (by omega) gu rm fun u2 g2 lu2 rn => ?_)
      rw [if_neg (by decide)]
      have rq : Runs (arrOf u2) (p.toList.map pr) 0 lo := ru.same fun k _ k2 => lu2 k k2
      have n1 : 1 ≤ min (a₀.size - lo) mr := by omega
      have n2 : lo + min (a₀.size - lo) mr ≤ a₀.size := by omega
      generalize min (a₀.size - lo) mr = N at *
    case' neg =>
      rw [if_neg hm]
      have g2 := gu
      have rn := rm
      have rq := ru
      have n1 := m1
      have n2 : lo + m ≤ a₀.size := by omega
      clear gu lu m2 rm ru hm m1
      generalize m = N at *
      generalize u = u2 at *
    all_goals
      refine wpS_bind (wpS_get ?_)
      have ep : pendingOf u2 = p := g2.pd
      cases hb : (pendingOf u2).back? with
      | none =>
        dsimp only
        exact wpS_bind (wpS_modify (wpS_pure (push N u2 p g2 rq rn n1 n2)))
      | some q =>
        obtain ⟨s1, k1, w1⟩ := q
        dsimp only
        generalize power' a₀.size (2 * s1 + k1) (2 * s1 + k1 + k1 + N) a₀.size = pw
        refine wpS_bind (wpS_mono (wpS_forRange (I := fun _ c u => c = (none, ()) ∧ ∃ q, SG a₀ q u ∧ Runs (arrOf u) (q.toList.map pr) 0 lo ∧ Ris (arrOf u) lo (lo + N))
          (Q := fun c u => c = (none, ()) ∧ ∃ q, SG a₀ q u ∧ Runs (arrOf u) (q.toList.map pr) 0 lo ∧ Ris (arrOf u) lo (lo + N)) ?_ (fun _ _ e => e) ⟨rfl, p, g2, rq, rn⟩) ?_)
        · rintro y c u3 _ _ ⟨rfl, q, g3, r3, rn3⟩
          refine wpS_bind (wpS_get ?_)
          have e3 : pendingOf u3 = q := g3.pd
          rw [e3]
          by_cases cz : q.size > 1
          · rw [if_pos cz, getElem?_pos q (q.size - 2) (by omega)]
            dsimp only
            split
            · exact wpS_pure ⟨rfl, q, g3, r3, rn3⟩
            · refine wpS_bind (wp_join h0 g3 r3 l1 (by omega) fun u4 q4 g4 r4 z4 k4 => ?_)
              exact wpS_pure ⟨rfl, q4, g4, r4, rn3.same fun k a1 _ => k4 k a1⟩
          · rw [if_neg cz]
            exact wpS_pure ⟨rfl, q, g3, r3, rn3⟩
        · rintro c u3 ⟨rfl, q, g3, r3, rn3⟩
          dsimp only
          refine wpS_bind (wpS_modify (wpS_bind (wpS_modify (wpS_pure (push N _ _ ⟨g3.pm, g3.kd, g3.fl, rfl⟩ ?_ rn3 n1 n2)))))
          rw [map_modify, show pendingOf u3 = q from g3.pd]
          exact r3
end
end L2
namespace L2
open PySem PySem.Spec PyProof.Rows
def most : Nat := 1000
theorem most_line {n : Nat} (h : n ≤ most) : n ≤ sizeLine := by
  rw [sizeLine_eq]; unfold most at h; omega
section
variable {prog : Program} {w : World} {A : Around} {E : Value → Shared → Prop} {s : Shared} {hb : Heap} {fa : Addr} {mp : Str → Option Value} {bk : List (Addr × Obj)} {a st : Addr} {xs : List Value} {ks : List Int} {ka : Array Value} {c1 c2 : Nat}
theorem srt_tail {P : PySem.Fin → Shared → Prop} {u : SortSt} (F : Fr hb fa s.heap mp) (N : News hb fa s.heap (bk ++ [(st, seqObj "list" ka c2), (a, seqObj "list" #[] c1)])) (ne : st ≠ a) (n1 : ∀ p ∈ bk, p.1 ≠ st) (n2 : ∀ p ∈ bk, p.1 ≠ a)
    (kz : ka.size = xs.length) (hk : IntsAre ka.toList ks) (hz : xs.length ≤ most) (pm : (arrOf u).Perm (ka.zip xs.toArray)) (so : SortedTo (arrOf u) (arrOf u).size) (fl : failedOf u = none)
    (h : ∀ h' tk out c, Fr hb fa h' mp → News hb fa h' ((a, seqObj "list" out c) :: bk) → KskOut false ks xs out.toList → P (.done (.ret .none)) { s with heap := h', toks := tk }) :
    wpAny (model prog w) A (ksk_tail a false c1 (.ref st) u) P E s := by
  have i1 := N (st, seqObj "list" ka c2) (by simp)
  have i2 := N (a, seqObj "list" #[] c1) (by simp)
  have zo : ((arrOf u).map (·.2)).size = xs.length := by
    rw [Array.size_map, pm.size_eq, Array.size_zip, kz, List.size_toArray, Nat.min_self]
  have b1 := Heap.SameBut.update s.heap st (Obj.mapSeq fun _ => (#[] : Array Value))
  have i3 := (b1.2 a ne.symm).trans i2.1
  have b2 := Heap.SameBut.update (s.heap.update st (Obj.mapSeq fun _ => (#[] : Array Value))) a (Obj.mapSeq fun _ => (arrOf u).map (·.2))
  obtain ⟨c3, i4⟩ : ∃ c3, ((s.heap.update st (Obj.mapSeq fun _ => (#[] : Array Value))).update a (Obj.mapSeq fun _ => (arrOf u).map (·.2))).get? a = some (seqObj "list" ((arrOf u).map (·.2)) c3) := ⟨_, get?_update_seq i3 fun _ => (arrOf u).map (·.2)⟩
  unfold ksk_tail
  dsimp only
  refine wpAny_bind (listUpdate_at i1.1 rfl ?_ (by rw [kz]; exact most_line hz) (Nat.zero_le _))
  refine wpAny_bind (wpAny_letGo ?_)
  refine wpAny_bind (seqEpoch_at i3 rfl ?_)
  refine wpAny_bind (listUpdate_at i3 rfl ?_ (Nat.zero_le _) (by simp only [Bool.false_eq_true, if_false]; rw [zo]; exact Nat.le_succ_of_le (most_line hz)))
  rw [fl]
  simp only [bne_self_eq_false, Bool.false_eq_true, if_false]
  have ko := ksk_out (b := false) hk pm so
  simp only [Bool.false_eq_true, if_false] at ko
  refine wpAny_pure (h _ _ _ c3 (ksk_fr (ksk_fr F b1 i1.2.1 i1.2.2) b2 i2.2.1 i2.2.2) (fun p hp => ?_) ko)
  rcases List.mem_cons.mp hp with e | hp
  · rw [e]; exact ⟨i4, i2.2⟩
  · exact ksk_news (ksk_news (fun q hq => N q (List.mem_append_left _ hq)) b1 n1) b2 n2 p hp
theorem srt_end {P : PySem.Fin → Shared → Prop} (F : Fr hb fa s.heap mp) (N : News hb fa s.heap (bk ++ [(st, seqObj "list" ka c2), (a, seqObj "list" #[] c1)])) (ne : st ≠ a) (n1 : ∀ p ∈ bk, p.1 ≠ st) (n2 : ∀ p ∈ bk, p.1 ≠ a)
    (hk : IntsAre ka.toList ks) (hl : ks.length = xs.length) (hz : xs.length ≤ most)
    (h : ∀ h' tk out c, Fr hb fa h' mp → News hb fa h' ((a, seqObj "list" out c) :: bk) → KskOut false ks xs out.toList → P (.done (.ret .none)) { s with heap := h', toks := tk }) :
    wpAny (model prog w) A (ksk_end a false xs.toArray c1 (.ref st) ka) P E s := by
  have kz : ka.size = xs.length := by
    have := hk.length
    rw [Array.length_toList] at this
    omega
  have zz : (ka.zip xs.toArray).size = xs.length := by rw [Array.size_zip, kz, List.size_toArray, Nat.min_self]
  unfold ksk_end
  dsimp only
  simp only [Bool.false_eq_true, if_false]
  by_cases few : xs.toArray.size < 2
  · rw [if_pos few, if_pos few]
    refine wpAny_bind (wpAny_pure ?_)
    rw [StateT.run_pure]
    refine wpAny_bind (wpAny_pure ?_)
    refine srt_tail (u := SortSt.mk' general' (ka.zip xs.toArray) #[] 7 none) F N ne n1 n2 kz hk hz (Array.Perm.refl _) (fun i j ij jz => ?_) rfl h
    have jz' : j < (ka.zip xs.toArray).size := jz
    rw [List.size_toArray] at few
    rw [show i = j by omega]
    exact Int.le_refl _
  · rw [if_neg few, if_neg few]
    rw [List.size_toArray] at few
    rw [ksk_kind hk (by omega)]
    refine wpAny_bind (wpAny_pure ?_)
    have srt := wp_sortG (prog := prog) (w := w) (A := A) (E := E) (s := s) (a₀ := ka.zip xs.toArray) (st := SortSt.mk' oneType' (ka.zip xs.toArray) #[] 7 none)
      (Q := fun _ v => (arrOf v).Perm (ka.zip xs.toArray) ∧ failedOf v = none ∧ SortedTo (arrOf v) (ka.zip xs.toArray).size) (ksk_intKeys hk) ⟨Array.Perm.refl _, rfl, rfl, rfl⟩ (by omega) fun v a1 a2 a3 => ⟨a1, a2, a3⟩
    refine wpAny_bind (wpAny_mono srt ?_ fun _ _ e => e)
    rintro ⟨⟨⟩, v⟩ s' ⟨rfl, pm, fl, so⟩
    exact srt_tail F N ne n1 n2 kz hk hz pm (by rw [pm.size_eq]; exact so) fl h
theorem srt_rest {P : PySem.Fin → Shared → Prop} {f : Value} (F : Fr hb fa s.heap mp) (N : News hb fa s.heap (bk ++ [(st, seqObj "list" #[] 0), (a, seqObj "list" #[] c1)])) (ne : st ≠ a) (n1 : ∀ p ∈ bk, p.1 ≠ st) (n2 : ∀ p ∈ bk, p.1 ≠ a)
    (hl : ks.length = xs.length) (hz : xs.length ≤ most)
    (ask : ∀ (i : Nat) (x : Value) (k : Int), xs[i]? = some x → ks[i]? = some k → ∀ (g : Heap) (tk : Nat) (own : List (Addr × Obj)), Fr hb fa g mp → News hb fa g (bk ++ own) →
      wpAny (model prog w) A (call f [x]) (KskEnd hb fa mp (bk ++ own) k { s with heap := g, toks := tk }) (fun _ _ => False) { s with heap := g, toks := tk })
    (h : ∀ h' tk out c, Fr hb fa h' mp → News hb fa h' ((a, seqObj "list" out c) :: bk) → KskOut false ks xs out.toList → P (.done (.ret .none)) { s with heap := h', toks := tk }) :
    wpAny (model prog w) A (ksk_rest a f false xs.toArray c1 (.ref st)) P E s := by
  unfold ksk_rest
  refine wpAny_bind (wpAny_rule ?_)
  rw [List.forIn_toArray]
  refine wpAny_bind (ksk_fold (fun i s' => ∃ g tk kA c, s' = { s with heap := g, toks := tk } ∧ Fr hb fa g mp ∧ News hb fa g (bk ++ [(st, seqObj "list" kA c), (a, seqObj "list" #[] c1)]) ∧ IntsAre kA.toList (ks.take i)) xs 0 s
    ⟨s.heap, s.toks, #[], 0, rfl, F, N, by simpa using IntsAre.nil⟩ ?one ?all)
  case one =>
    rintro j x s' hx ⟨g, tk, kA, c, rfl, F1, N1, hk⟩
    rw [Nat.zero_add] at hk
    have lj : j < xs.length := (List.getElem?_eq_some_iff.mp hx).1
    have hkj := List.getElem?_eq_getElem (l := ks) (i := j) (by omega)
    have zk : kA.size < most := by
      have := hk.length
      rw [Array.length_toList, List.length_take] at this
      omega
    refine wpAny_bind (wpAny_attempt (wpAny_mono (ask j x _ hx hkj g tk _ F1 N1) (fun v s'' q => ?_) fun _ _ q => q.elim))
    obtain ⟨g2, tk2, t2, rfl, rfl, F2, N2⟩ := q
    dsimp only
    have i1 := N2 (st, seqObj "list" kA c) (by simp)
    have i2 := N2 (a, seqObj "list" #[] c1) (by simp)
    have b1 := Heap.SameBut.update g2 st (Obj.mapSeq (·.push (.int ks[j] t2)))
    obtain ⟨c3, i3⟩ : ∃ c3, (g2.update st (Obj.mapSeq (·.push (.int ks[j] t2)))).get? st = some (seqObj "list" (kA.push (.int ks[j] t2)) c3) := ⟨_, get?_update_seq i1.1 (·.push (.int ks[j] t2))⟩
    refine wpAny_bind (listUpdate_at i1.1 rfl ?_ (most_line (by omega)) (by rw [Array.size_push]; exact Nat.succ_le_succ (most_line (Nat.le_of_lt zk))))
    refine wpAny_pure ⟨rfl, _, _, kA.push (.int ks[j] t2), c3, rfl, ksk_fr F2 b1 i1.2.1 i1.2.2, fun p hp => ?_, ?_⟩
    · rcases List.mem_append.mp hp with hp | hp
      · exact ksk_news (fun q hq => N2 q (List.mem_append_left _ hq)) b1 n1 p hp
      · rcases List.mem_cons.mp hp with e | hp
        · rw [e]; exact ⟨i3, i1.2⟩
        · rw [List.mem_singleton.mp hp]
          exact ⟨(b1.2 a ne.symm).trans i2.1, i2.2⟩
    · rw [Nat.zero_add, List.take_add_one, hkj, Array.toList_push]
      exact ksk_snoc hk
  case all =>
    rintro s' ⟨g, tk, kA, c, rfl, F1, N1, hk⟩
    rw [Nat.zero_add, List.take_of_length_le (by omega)] at hk
    try dsimp only
    refine wpAny_bind (listItems_at (N1 (st, seqObj "list" kA c) (by simp)).1 rfl ?_)
    exact srt_end F1 N1 ne n1 n2 hk hl hz fun h3 tk3 out c F3 N3 k3 => h h3 tk3 out c F3 N3 k3
theorem srt_sort {P : PySem.Fin → Shared → Prop} {f : Value} {c : Nat} (F : Fr hb fa s.heap mp) (N : News hb fa s.heap bk) (ho : s.heap.get? a = some (seqObj "list" xs.toArray c)) (aL : a ≠ fa) (a0 : hb.get? a = none) (n2 : ∀ p ∈ bk, p.1 ≠ a)
    (hl : ks.length = xs.length) (hz : xs.length ≤ most)
    (ask : ∀ (i : Nat) (x : Value) (k : Int), xs[i]? = some x → ks[i]? = some k → ∀ (g : Heap) (tk : Nat) (own : List (Addr × Obj)), Fr hb fa g mp → News hb fa g (bk ++ own) →
      wpAny (model prog w) A (call f [x]) (KskEnd hb fa mp (bk ++ own) k { s with heap := g, toks := tk }) (fun _ _ => False) { s with heap := g, toks := tk })
    (h : ∀ h' tk out c, Fr hb fa h' mp → News hb fa h' ((a, seqObj "list" out c) :: bk) → KskOut false ks xs out.toList → P (.done (.ret .none)) { s with heap := h', toks := tk }) :
    wpAny (model prog w) A (ksk_tree a f false) P E s := by
  have la : a < s.heap.objs.size := Heap.lt_size ho
  have b1 := Heap.SameBut.update s.heap a (Obj.mapSeq fun _ => (#[] : Array Value))
  obtain ⟨c3, ho1⟩ : ∃ c3, (s.heap.update a (Obj.mapSeq fun _ => (#[] : Array Value))).get? a = some (seqObj "list" #[] c3) := ⟨_, get?_update_seq ho fun _ => #[]⟩
  have F1 := ksk_fr F b1 aL a0
  have N1 := ksk_news N b1 n2
  unfold ksk_tree
  refine wpAny_bind (listItems_at ho rfl ?_)
  refine wpAny_bind (listUpdate_at ho rfl ?_ (by rw [List.size_toArray]; exact most_line hz) (Nat.zero_le _))
  refine wpAny_bind (seqEpoch_at ho1 rfl ?_)
  refine wpAny_bind (wpAny_newTuple ?_ (by rw [List.toList_toArray]; exact most_line hz))
  refine wpAny_bind (wpAny_newList ?_ (Nat.zero_le _))
  refine wpAny_holding ?_
  have zt : ((s.heap.update a (Obj.mapSeq fun _ => (#[] : Array Value))).push (seqObj "tuple" xs.toArray 0)).objs.size = s.heap.objs.size + 1 := by rw [size_push', Heap.size_update]
  have lf := (F1.push (seqObj "tuple" xs.toArray 0)).ns.lt
  refine srt_rest (s := { s with heap := ((s.heap.update a (Obj.mapSeq fun _ => (#[] : Array Value))).push (seqObj "tuple" xs.toArray 0)).push (seqObj "list" #[] 0) })
    ((F1.push _).push _) (fun p hp => ?_) (by rw [zt]; exact Nat.ne_of_gt (Nat.lt_succ_of_lt la)) (fun p hp => by rw [zt]; exact Nat.ne_of_lt (Nat.lt_succ_of_lt (Heap.lt_size (N p hp).1))) n2 hl hz ask h
  rcases List.mem_append.mp hp with hp | hp
  · exact ⟨Heap.get?_push_of_some _ (Heap.get?_push_of_some _ (N1 p hp).1), (N1 p hp).2⟩
  · rcases List.mem_cons.mp hp with e | hp
    · rw [e]; exact ⟨Heap.get?_push_size _ rfl, Nat.ne_of_gt lf, Heap.get?_none_of_le (Nat.le_trans F.above (Nat.le_of_lt lf))⟩
    · rw [List.mem_singleton.mp hp]
      exact ⟨Heap.get?_push_of_some _ (Heap.get?_push_of_some _ ho1), aL, a0⟩
theorem srt_sorted {l : Addr} {Q : Value → Shared → Prop} {f : Addr} (F : Fr hb fa s.heap mp) (N : News hb fa s.heap bk) (il : s.heap.IsList l xs.toArray) (hl : ks.length = xs.length) (hz : xs.length ≤ most)
    (ask : ∀ (i : Nat) (x : Value) (k : Int), xs[i]? = some x → ks[i]? = some k → ∀ (g : Heap) (tk : Nat) (own : List (Addr × Obj)), Fr hb fa g mp → News hb fa g (bk ++ own) →
      wpAny (model prog w) A.in1.in1 (call (.ref f) [x]) (KskEnd hb fa mp (bk ++ own) k { s with heap := g, toks := tk }) (fun _ _ => False) { s with heap := g, toks := tk })
    (h : ∀ D h' tk out c, Fr hb fa h' mp → News hb fa h' ((D, seqObj "list" out c) :: bk) → (∀ q ∈ bk, q.1 < D) → KskOut false ks xs out.toList → Q (.ref D) { s with heap := h', toks := tk }) :
    wpAny (model prog w) A (call (.builtin "sorted") [.ref l] [(PySem.Str.ofString "key", .ref f)]) Q E s := by
  refine call_function_entry_kw kind_sorted plain_sorted entry_sorted (ksk_s1 _ _) ?_
  unfold Builtin.«sorted»
  refine wpAny_bind (m := checkCount "sorted" 1 1 _) (wpAny_pure ?_)
  refine wpAny_bind (collect_list il ?_ (most_line hz))
  refine wpAny_bind (wpAny_newList ?_ (most_line hz))
  have z1 : ((s.heap.push (seqObj "list" #[] 0)).update s.heap.objs.size (Obj.mapSeq (· ++ xs.toArray))).objs.size = s.heap.objs.size + 1 := by
    rw [Heap.size_update, size_push']
  generalize eg : ((s.heap.push (seqObj "list" #[] 0)).update s.heap.objs.size (Obj.mapSeq (· ++ xs.toArray))) = g at z1
  have kp : ∀ b o, s.heap.get? b = some o → (g.push (seqObj "list" xs.toArray 0)).get? b = some o := fun b o q => by
    have lt := Heap.lt_size q
    rw [Heap.get?_push_ne _ _ _ (by rw [z1]; exact Nat.ne_of_lt (Nat.lt_succ_of_lt lt)), ← eg, Heap.get?_update_ne _ _ _ _ (Nat.ne_of_lt lt), Heap.get?_push_ne _ _ _ (Nat.ne_of_lt lt)]
    exact q
  have hn : (g.push (seqObj "list" xs.toArray 0)).get? (s.heap.objs.size + 1) = some (seqObj "list" xs.toArray 0) := by
    rw [← z1]; exact Heap.get?_push_size _ rfl
  have lf := F.ns.lt
  show wpAny _ _ _ _ _ { s with heap := g.push (seqObj "list" xs.toArray 0) }
  rw [z1]
  refine wpAny_bind (wpAny_holding (wpAny_call_entry_kw slot_list_sort ⟨_, hn, rfl⟩ entry_list_sort ?body (ksk_l1 _ _)))
  case body =>
    have e1 := ksk_t1 f (s.heap.objs.size + 1)
    show wpAny (model prog w) A.in1.in1 (Builtin.«list.sort» ⟨[.ref (s.heap.objs.size + 1)], [(PySem.Str.ofString "key", .ref f)]⟩) _ _ _
    rw [e1]
    refine srt_sort (s := { s with heap := g.push (seqObj "list" xs.toArray 0) }) (F.kept kp) (N.grown kp) hn (Nat.ne_of_gt (Nat.lt_succ_of_lt lf)) (Heap.get?_none_of_le (Nat.le_trans F.above (Nat.le_succ_of_le (Nat.le_of_lt lf))))
      (fun p hp => Nat.ne_of_lt (Nat.lt_succ_of_lt (Heap.lt_size (N p hp).1))) hl hz ask fun h' tk out c F' N' k' => ⟨_, rfl, ?_⟩
    exact wpAny_pure ⟨_, rfl, h _ h' tk out c F' N' (fun q hq => Nat.lt_succ_of_lt (Heap.lt_size (N q hq).1)) k'⟩
end
end L2
namespace L2
open PySem PySem.Spec PyProof.Rows
section
variable {X : Cx} {pins : List (Addr × Obj)} {σ : St} {H : Hp} {s : Shared}
theorem news_whole {h : Heap} {L : Addr} : News (Att.noObjs h) L h (Att.ledger h L L) := by
  rintro ⟨a, o⟩ hp
  obtain ⟨n1, _, e⟩ := Att.mem_ledger.mp hp
  exact ⟨e, n1, Att.noObjs_get _ _⟩
theorem Inv.newList {h' : Heap} {t' : Nat} {D : Addr} {m : Str → Option Value} {xs : List V} {its : List Value} {n : Nat} (I : Inv X pins σ H s) (hm : s.heap.Ns X.env.locals m) (hn : h'.Ns X.env.locals m)
    (k : ∀ b o, b ≠ X.env.locals → s.heap.get? b = some o → h'.get? b = some o) (fr : s.heap.get? D = none) (hD : h'.get? D = some { cls := .type "list", data := .seq its.toArray n })
    (r : Vals xs its) (hz : xs.length ≤ sizeLine) : H D = none ∧ Inv X pins σ (upd H D (.lst xs)) { s with heap := h', toks := t' } := by
  have nD : H D = none := by
    cases q : H D with
    | none => rfl
    | some u =>
      exfalso
      have : ∃ o, s.heap.get? D = some o := by
        have l := (I.hok D u q).lt
        have z := I.hok D u q
        cases u with
        | lst ys => obtain ⟨_, _, _, _, e⟩ := z; exact ⟨_, e⟩
        | tup ys => obtain ⟨_, _, _, o, e, _⟩ := z; exact ⟨_, e⟩
        | dK kvs => obtain ⟨_, _, _, _, o, _, _, e, _⟩ := z; exact ⟨_, e⟩
        | dT kvs => obtain ⟨_, _, _, _, o, _, _, e, _⟩ := z; exact ⟨_, e⟩
        | set S n => obtain ⟨o, _, _, _, e, _⟩ := z; exact ⟨_, e⟩
        | ins C dx fs => obtain ⟨_, _, _, e, _⟩ := z; exact ⟨_, e⟩
        | own y => exact z
        | xd fs => obtain ⟨_, ⟨o, _, _, e, _⟩, _⟩ := z; exact ⟨_, e⟩
        | rng lo hi => obtain ⟨_, _, _, e⟩ := z; exact ⟨_, e⟩
        | frz ob u => obtain ⟨e, _⟩ := z; exact ⟨_, e⟩
        | tbl ps => exact ⟨_, z⟩
        | met f y => exact ⟨_, z⟩
        | ext φ => exact z.2.1
      obtain ⟨o, e⟩ := this
      rw [fr] at e; cases e
  have ne : ∀ b u, H b = some u → b ≠ D := fun b u q => ne_of_none q nD
  have nL : ∀ b u, H b = some u → b ≠ X.env.locals := fun b u q => ne_of_none q I.free
  refine ⟨nD, I.step (g' := s.gens) (d' := s.drawn) (ch := []) (fun b z => absurd z (by simp)) (fun b o hL _ _ e _ => k b o hL e) (fun b o hL _ _ e _ => ⟨o.slots, k b o hL e⟩) (fun b o _ e n => ?_) (fun b o _ e => ?_)
    (fun b ys q => ?_) (fun b o u q => ?_) (fun b ps q => ?_) (fun m' hm' => ?_) (fun b u q => ?_) I.bare⟩
  · rw [upd_ne (fun z => by rw [z, fr] at e; cases e)]; exact n
  · by_cases z : b = X.env.locals
    · obtain ⟨o', _, _, e', _⟩ := hn
      exact ⟨o', by rw [z]; exact e'⟩
    · exact ⟨o, k b o z e⟩
  · rw [upd_ne (ne b _ q)]; exact q
  · rw [upd_ne (ne b _ q)]; exact q
  · exact ⟨#[], by rw [upd_ne (ne b _ q), q]; simp⟩
  · have e1 := hm.eq_nsMap
    have e2 := hm'.eq_nsMap
    rw [e2, ← e1]; exact hn
  · by_cases z : b = D
    · subst z; rw [upd_same] at q; cases q
      exact ⟨hz, its, n, r, hD⟩
    · rw [upd_ne z] at q
      refine (I.hok b u q).stay (fun c v hc r => k c v ?_ r) (fun c r => by rw [upd_ne (ne c _ r)]; exact r) fun c ys r => by rw [upd_ne (ne c _ r)]; exact r
      rcases hc with hc | hc
      · rw [hc]; exact nL b u q
      · exact nL c _ hc
end
theorem vals_refs {ps : List Addr} {its : List Value} (r : Vals (ps.map V.ref) its) : its = ps.map Value.ref := by
  induction ps generalizing its with
  | nil => cases r; rfl
  | cons p ps ih =>
    cases r with
    | cons h t => rw [List.map_cons, ← ih t]; cases h; rfl
theorem refs_vals : ∀ ps : List Addr, Vals (ps.map V.ref) (ps.map Value.ref)
  | [] => .nil
  | _ :: ps => .cons rfl (refs_vals ps)
def addrOf : Value → Addr
  | .ref a => a
  | _ => 0
theorem paired_get {α β : Type} {F : α → β → Prop} : ∀ {l₁ : List α} {l₂ : List β}, Paired F l₁ l₂ → ∀ {i : Nat} {a : α}, l₁[i]? = some a → ∃ b, l₂[i]? = some b ∧ F a b
  | _, _, .nil, _, _, e => by simp at e
  | _, _, .cons r _, 0, _, e => by simp at e; subst e; exact ⟨_, rfl, r⟩
  | _, _, .cons _ t, i + 1, a, e => by
    obtain ⟨b, h1, h2⟩ := paired_get t (i := i) (a := a) (by simpa using e)
    exact ⟨b, by simpa using h1, h2⟩
def tSort (pa p1 p2 p3 : Pos) (j : Nat) (scope : Scope) (q : Str) (t tk : TA) : TE := fun σ H Q => t σ H fun vs H1 => tk σ H1 fun zs H2 => ∃ (l f c : Addr) (ps : List Addr) (ks : List Int),
  vs = [.ref l] ∧ zs = [.ref f] ∧ H2 l = some (.lst (ps.map V.ref)) ∧ ps.length ≤ most ∧ Paired (fun p k => ∃ r, H2 p = some (.tup (.int k :: r)) ∧ r.length < 1000) ps ks ∧
  H2 c = some (.ext (CodeRecAt c q)) ∧
  H2 f = some (.ext (FnIs f { posonlyargs := [], args := [{ arg := "row", annotation := none, pos := pa }], vararg := none, kwonlyargs := [], kw_defaults := [], kwarg := none, defaults := [] } (.Subscript (.Name "row" p1) (.Constant (.int 0) j p2) p3) scope q c)) ∧
  ∀ (D : Addr) (zs : List (Int × Addr)), zs.Perm (ks.zip ps) → zs.Pairwise (fun a b => a.1 ≤ b.1) → H2 D = none → Q (.ref D) (upd H2 D (.lst (zs.map fun z => V.ref z.2)))
section
variable {X : Cx} {e : Expr} {kws : List Keyword} {t tk : TA} {p pos : Pos}
theorem pe_sort {k : Nat} {pa p1 p2 p3 : Pos} {j : Nat} {scope : Scope} {q : Str} (hr : Room k X.A) (hg : Gl X "sorted") (hm : X.mg "sorted" = none) (ha : PA X [e] t) (hk : PK X kws tk)
    (hsc : scope.kind = .function) (hsn : scope.names = [(PySem.Str.ofString "row", .local)]) (hsg : scope.isGenerator = false) (hsco : scope.isCoroutine = false)
    (he : backTo pos (starEach [e] X.env) = (false, eval e X.env) :: backTo pos (starEach [] X.env) := by rfl) (hplain : (backTo pos (starEach [e] X.env)).any (·.1) = false := by rfl)
    (hall : (backToKw pos (keywordEach kws X.env)).all (·.1.isSome) = true := by rfl) (hkw : (backToKw pos (keywordEach kws X.env)).any (·.1.isNone) = false := by rfl)
    (hks : (backToKw pos (keywordEach kws X.env)).filterMap (·.1) = [PySem.Str.ofString "key"] := by rfl) : PE X (.Call (.Name "sorted" p) [e] kws pos) (tSort pa p1 p2 p3 j scope q t tk) := by
  intro pins s σ H Q I h
  refine wpAny_Call_Name_kw (ld_blt I hg hm PyProof.Rows.Boot.«sorted» ?_)
  refine callWith_kw (thn (ha pos pins s σ H _ I h) fun us s1 hh => ?_) he hplain hall hkw
  obtain ⟨vs, H1, I1, r1, q1⟩ := hh
  refine thn (hk pos pins s1 σ H1 _ I1 q1) fun ws s2 hh => ?_
  obtain ⟨zs, H2, I2, r2, l, f, c, ps, ks, rfl, rfl, hl, h64, pk, hc, hf, done⟩ := hh
  obtain ⟨u, rfl, ru⟩ := vals1 r1
  obtain ⟨u2, rfl, ru2⟩ := vals1 r2
  cases (show u = Value.ref l from ru)
  cases (show u2 = Value.ref f from ru2)
  rw [hks]
  show wpAny _ _ (call (.builtin "sorted") [.ref l] [(PySem.Str.ofString "key", .ref f)]) _ _ _
  obtain ⟨its, n, rv, ho, hz⟩ := I2.lst hl
  obtain rfl := vals_refs rv
  obtain ⟨m, hn, _⟩ := id I2.loc
  have kl : ks.length = ps.length := (Paired.length pk).symm
  have nL : ∀ b u, H2 b = some u → b ≠ X.env.locals := fun b u q => ne_of_none q I2.free
  refine srt_sorted (hb := Att.noObjs s2.heap) (fa := X.env.locals) (mp := m) (bk := Att.ledger s2.heap X.env.locals X.env.locals) (ks := ks) (xs := ps.map Value.ref) (f := f) (Att.fr_all hn) news_whole ⟨_, ho, rfl, n, rfl⟩ (by rw [List.length_map, kl]) (by rw [List.length_map]; exact h64)
    (fun i v kz hv hkz h1 tk1 own F1 N1 => ?_) (fun D h3 tk3 out c3 F3 N3 lt ko => ?_)
  · -- one call of the key
    rw [List.getElem?_map] at hv
    cases ep : ps[i]? with
    | none => rw [ep] at hv; cases hv
    | some a =>
      rw [ep] at hv
      cases hv
      obtain ⟨k', ek, r, ht, hr'⟩ := paired_get pk ep
      rw [hkz] at ek
      cases ek
      have kept : ∀ b o, b ≠ X.env.locals → s2.heap.get? b = some o → h1.get? b = some o := fun b o n e => (N1 (b, o) (List.mem_append_left _ (Att.mem_ledger.mpr ⟨n, n, e⟩))).1
      obtain ⟨hz2, ts, rt, ot, et, ct, nt, dt⟩ := (show ObjOk X.prog X.w H2 s2.heap a (.tup (.int kz :: r)) from I2.hok a _ ht)
      cases rt with
      | @cons _ u _ us hu0 htl =>
        obtain ⟨tt, rfl⟩ := hu0
        obtain ⟨pm, ctv, ef⟩ := (show ObjOk X.prog X.w H2 s2.heap f _ from I2.hok f _ hf).1
        have hcr := (show ObjOk X.prog X.w H2 s2.heap c _ from I2.hok c _ hc).1
        obtain ⟨oc, eoc⟩ := CodeRecAt.obj hcr
        have hl1 : us.length < 1000 := by have := Paired.length htl; omega
        refine lam_turn (s := { s2 with heap := h1, toks := tk1 }) (scope := scope) (show X.A.depth < recursionLimit from hr.depth) (kept _ _ (nL _ _ hf) ef) hsc hsn hsg hsco (CodeRecAt.st hcr fun o e => kept _ _ (nL _ _ hc) e) ⟨ot, kept _ _ (nL _ _ ht) et, ct, nt, dt⟩ hl1
          (I2.ok.mod.nolimit.keeps fun b o e => kept b o (Nat.ne_of_lt (Nat.lt_of_lt_of_le (Heap.lt_size e) (Nat.le_trans I2.ok.bsz I2.ok.above))) (I2.bk b o e)) fun h₁ tk' hk' => ?_
        exact ⟨h₁, tk', tt, rfl, rfl, ⟨F1.ns.keeps hk', fun b o e => hk' b o (F1.keep b o e), F1.above⟩, fun p hp => ⟨hk' _ _ (N1 p hp).1, (N1 p hp).2⟩⟩
  · -- the sorted list
    obtain ⟨qs, hp, ho3, hs⟩ := ko
    have kept : ∀ b o, b ≠ X.env.locals → s2.heap.get? b = some o → h3.get? b = some o := fun b o n e => (N3 (b, o) (List.mem_cons_of_mem _ (Att.mem_ledger.mpr ⟨n, n, e⟩))).1
    have nD := N3 (D, seqObj "list" out c3) List.mem_cons_self
    have fr : s2.heap.get? D = none := by
      cases e : s2.heap.get? D with
      | none => rfl
      | some o => exact absurd (lt (D, o) (Att.mem_ledger.mpr ⟨nD.2.1, nD.2.1, e⟩)) (Nat.lt_irrefl _)
    have eg : ks.zip (ps.map Value.ref) = (ks.zip ps).map fun z => (z.1, Value.ref z.2) := by
      rw [List.zip_map_right]
      rfl
    have all : ∀ z ∈ qs, (z.1, Value.ref (addrOf z.2)) = z := fun z hz => by
      have := hp.mem_iff.mp hz
      rw [eg] at this
      obtain ⟨y, _, rfl⟩ := List.mem_map.mp this
      rfl
    have hp2 : (qs.map fun z => (z.1, addrOf z.2)).Perm (ks.zip ps) := by
      have := hp.map fun z : Int × Value => (z.1, addrOf z.2)
      rw [eg, List.map_map] at this
      have e2 : ((fun z : Int × Value => (z.1, addrOf z.2)) ∘ fun z : Int × Addr => (z.1, Value.ref z.2)) = id := by funext z; rfl
      rw [e2, List.map_id] at this
      exact this
    have hs2 : (qs.map fun z => (z.1, addrOf z.2)).Pairwise (fun a b => a.1 ≤ b.1) := by
      rw [List.pairwise_map]
      exact hs.imp fun q => q
    have e3 : out.toList = ((qs.map fun z => (z.1, addrOf z.2)).map fun z => Value.ref z.2) := by
      rw [ho3, List.map_map]
      refine List.map_congr_left fun z hz => ?_
      exact (congrArg Prod.snd (all z hz)).symm
    have eo : out = (((qs.map fun z => (z.1, addrOf z.2)).map fun z => z.2).map Value.ref).toArray := by
      rw [List.map_map]
      have : out = out.toList.toArray := by simp
      rw [this, e3]
      rfl
    have hD : h3.get? D = some { cls := .type "list", data := .seq (((qs.map fun z => (z.1, addrOf z.2)).map fun z => z.2).map Value.ref).toArray c3 } := by rw [← eo]; exact nD.1
    have hl3 : (qs.map fun z => (z.1, addrOf z.2)).length ≤ sizeLine := by
      rw [hp2.length_eq, List.length_zip, kl, Nat.min_self]
      rw [List.length_map] at hz
      exact hz
    obtain ⟨nH, I3⟩ := I2.newList (t' := tk3) hn F3.ns kept fr hD (refs_vals _) (by rw [List.length_map, List.length_map]; exact hl3)
    rw [List.map_map] at I3
    exact ⟨.ref D, _, I3, rfl, done D _ hp2 hs2 nH⟩
end
end L2
namespace L2
open PySem PySem.Spec PyProof.Rows
abbrev RowV := Int × Int × V
def MarkV : V → Prop
  | .non => True
  | .int _ => True
  | _ => False
def tupV (r : RowV) : List V := [.int r.1, .int r.2.1, r.2.2]
def RowsP (H : Hp) (ps : List Addr) (rs : List RowV) : Prop := Paired (fun p r => H p = some (.tup (tupV r)) ∧ MarkV r.2.2) ps rs
def RowsL (H : Hp) (a : Addr) (rs : List RowV) : Prop := ∃ ps, H a = some (.lst (ps.map V.ref)) ∧ RowsP H ps rs
def datM : V → PySem.W.Dat
  | .int i => .int i
  | _ => .none
def datR (r : RowV) : PySem.W.Dat := .tuple [.int r.1, .int r.2.1, datM r.2.2]
theorem datM_inj : ∀ {x y : V}, MarkV x → MarkV y → datM x = datM y → x = y
  | .non, .non, _, _, _ => rfl
  | .int _, .int _, _, _, e => by cases e; rfl
  | .non, .int _, _, _, e => by cases e
  | .int _, .non, _, _, e => by cases e
theorem datR_inj {r s : RowV} (h1 : MarkV r.2.2) (h2 : MarkV s.2.2) (e : datR r = datR s) : r = s := by
  obtain ⟨a, b, c⟩ := r
  obtain ⟨a', b', c'⟩ := s
  unfold datR at e
  injection e with e
  injection e with e1 e
  injection e with e2 e
  injection e with e3 _
  injection e1 with e1
  injection e2 with e2
  have := datM_inj h1 h2 e3
  simp only at e1 e2 this
  rw [e1, e2, this]
theorem rowsP_marks {H : Hp} {ps : List Addr} {rs : List RowV} (h : RowsP H ps rs) : ∀ r ∈ rs, MarkV r.2.2 := by
  unfold RowsP at h
  induction h with
  | nil => intro r hr; cases hr
  | cons a t ih =>
    intro r hr
    rcases List.mem_cons.mp hr with e | hr
    · rw [e]; exact a.2
    · exact ih r hr
theorem datRs_inj : ∀ {rs ss : List RowV}, (∀ r ∈ rs, MarkV r.2.2) → (∀ r ∈ ss, MarkV r.2.2) → rs.map datR = ss.map datR → rs = ss
  | [], [], _, _, _ => rfl
  | [], _ :: _, _, _, e => by cases e
  | _ :: _, [], _, _, e => by cases e
  | r :: rs, s :: ss, h1, h2, e => by
    rw [List.map_cons, List.map_cons] at e
    injection e with e1 e2
    rw [datR_inj (h1 r List.mem_cons_self) (h2 s List.mem_cons_self) e1, datRs_inj (fun r hr => h1 r (List.mem_cons_of_mem _ hr)) (fun r hr => h2 r (List.mem_cons_of_mem _ hr)) e2]
theorem datR_ok (rs : List RowV) (h : ∀ r ∈ rs, MarkV r.2.2) : ∀ d ∈ rs.map datR, PySem.W.kqdOk 8 d = true := by
  intro d hd
  obtain ⟨r, hr, rfl⟩ := List.mem_map.mp hd
  have m := h r hr
  obtain ⟨a, b, c⟩ := r
  cases c with
  | non => rfl
  | int i => rfl
  | _ => exact m.elim
theorem datL_ok (rs : List RowV) (h : ∀ r ∈ rs, MarkV r.2.2) : PySem.W.kqdOk 9 (.list (rs.map datR)) = true := List.all_eq_true.mpr (datR_ok rs h)
section
variable {X : Cx} {pins : List (Addr × Obj)} {σ : St} {H : Hp} {s : Shared}
theorem reads_mark {h : Heap} {x : V} {u : Value} (m : MarkV x) (r : RelV x u) : Reads h u (PySem.W.kqdP (datM x)) [] := by
  cases x with
  | non =>
    cases r
    have e : datM V.non = .none := rfl
    rw [e, PySem.W.kqdP]; exact .none
  | int i =>
    obtain ⟨t, rfl⟩ := r
    have e : datM (V.int i) = .int i := rfl
    rw [e, PySem.W.kqdP]; exact .int i t
  | _ => exact m.elim
theorem reads_row {p : Addr} {r : RowV} (I : Inv X pins σ H s) (e : H p = some (.tup (tupV r))) (m : MarkV r.2.2) : Reads s.heap (.ref p) (PySem.W.kqdP (datR r)) [] := by
  obtain ⟨hz, its, rt, ot, et, ct, nt, dt⟩ := (show ObjOk X.prog X.w H s.heap p (.tup (tupV r)) from I.hok p _ e)
  cases rt with
  | cons h1 rt =>
    cases rt with
    | cons h2 rt =>
      cases rt with
      | cons h3 rt =>
        cases rt
        obtain ⟨t1, rfl⟩ := h1
        obtain ⟨t2, rfl⟩ := h2
        unfold datR
        rw [PySem.W.kqdP, PySem.W.kqdPs, PySem.W.kqdPs, PySem.W.kqdPs, PySem.W.kqdPs, PySem.W.kqdP, PySem.W.kqdP]
        exact reads_tuple_at et ct dt (.cons (.int _ _) (.cons (.int _ _) (.cons (reads_mark m h3) .nil)))
theorem reads_rows {ps : List Addr} {rs : List RowV} (I : Inv X pins σ H s) (h : RowsP H ps rs) : ReadsAll s.heap (ps.map Value.ref) (PySem.W.kqdPs (rs.map datR)) [] := by
  unfold RowsP at h
  induction h with
  | nil => rw [List.map_nil, List.map_nil, PySem.W.kqdPs]; exact .nil
  | @cons p r ps rs a t ih =>
    rw [List.map_cons, List.map_cons, PySem.W.kqdPs]
    exact .cons (reads_row I a.1 a.2) ih
theorem rows_eqv {rs ss : List RowV} (h1 : ∀ r ∈ rs, MarkV r.2.2) (h2 : ∀ r ∈ ss, MarkV r.2.2) {k : Bool} (hk : k = true ↔ rs = ss) : PyData.eqv (.list (PySem.W.kqdPs (rs.map datR))) (.list (PySem.W.kqdPs (ss.map datR))) = k := by
  have q := PySem.W.kqd_eqv 9 (.list (rs.map datR)) (.list (ss.map datR)) 9 (datL_ok rs h1) (datL_ok ss h2)
  rw [PySem.W.kqdP, PySem.W.kqdP, PySem.W.Dat.list.injEq] at q
  by_cases e : rs = ss
  · rw [hk.mpr e]; exact q.mpr (by rw [e])
  · have : k = false := by
      cases k with
      | false => rfl
      | true => exact absurd (hk.mp rfl) e
    rw [this]
    exact Bool.eq_false_iff.mpr fun x => e (datRs_inj h1 h2 (q.mp x))
theorem rows_shaped {rs : List RowV} (h : ∀ r ∈ rs, MarkV r.2.2) : SeqAt.shaped (.list (PySem.W.kqdPs (rs.map datR))) = true := by
  have la := PySem.W.kqd_lay 9 (.list (rs.map datR)) (datL_ok rs h)
  rw [PySem.W.kqdP] at la
  unfold SeqAt.shaped
  rw [la.1, Bool.true_and]
  exact decide_eq_true (Nat.le_trans la.2 (by decide))
end
section
variable {X : Cx}
def rEqRows (neg : Bool) : R2 := fun x y H Q => ∃ a b rs ss, x = .ref a ∧ y = .ref b ∧ RowsL H a rs ∧ RowsL H b ss ∧ ∃ k : Bool, (k = true ↔ rs = ss) ∧ Q (.bl (if neg then !k else k)) H
theorem op_neRows (hu : X.A.units + 64 < cLine) : OpR X (compareOp .NotEq) (rEqRows true) := by
  intro pins s σ H x y v u Q I r1 r2 h
  obtain ⟨a, b, rs, ss, rfl, rfl, ⟨ps, ha, pa⟩, ⟨qs, hb, pb⟩, k, hk, q⟩ := h
  cases r1
  cases r2
  obtain ⟨its, n, rv, ho, hz⟩ := I.lst ha
  obtain rfl := vals_refs rv
  obtain ⟨its', n', rv', ho', hz'⟩ := I.lst hb
  obtain rfl := vals_refs rv'
  refine ne_dataH (reads_list_at ho rfl rfl (by simpa using reads_rows I pa)) (reads_list_at ho' rfl rfl (by simpa using reads_rows I pb)) (rows_shaped (rowsP_marks pa)) (rows_shaped (rowsP_marks pb)) hu ?_
  rw [rows_eqv (rowsP_marks pa) (rowsP_marks pb) hk]
  exact ⟨.bl (!k), H, I, rfl, q⟩
end
section
variable {X : Cx}
end
end L2
namespace L2
open PySem PySem.Spec PyProof.Rows
def OnlyT (P : Addr) (H : Hp) : Prop := H P = some (.tbl #[]) ∧ ∀ b, b = P ∨ H b = none ∨ ∃ o xs, H b = some (.frz o (.lst xs))
theorem law_callT {P : Program} {w : World} {K : PySem.W.Frag} {mg mb : Str → Option Value} {k : Nat} {fa a : Addr} {fd : FuncData} {x : Str} {sp : Sp} {s₁ : Shared} {vs : List Value} {ns : List Int} {c T : Addr}
    (KX : K.In s₁.heap) (hns : s₁.heap.Ns mainGlobals mg) (hb : s₁.heap.Ns builtinsNs mb) (hbb : ∀ x : Str, x ≠ "__name__" → mb x = bootBuiltins x) (hlim : s₁.heap.NoLimit) (hg : s₁.gens = #[])
    (hC : PySem.W.CodeHd s₁.heap c T) (hT : s₁.heap.get? T = some (PySem.W.tabObj #[])) (hnt : PySem.W.noTabs K = true) (hB : s₁.heap.BuiltinsAt mg T)
    (ha : s₁.heap.get? a = some { cls := .type "list", data := .seq vs.toArray }) (hi : IntsAre vs ns) (hl : ns.length ≤ sizeLine) (hr : Room k callerA)
    (F : ∀ base : Heap, K.In base → base.Ns mainGlobals mg → PySem.W.CodeHd base c T → base.BuiltinsAt mg T → FnOk P w K mg base CX0 k fa fd [x] sp) (hbind : ∀ (s : Shared) (u : Value), BindsTo s fd ⟨[u], []⟩ [(x, u)])
    (hsp : ∀ H : Hp, OnlyT T H → SqL K H a (ns.map V.int) → sp [.ref a] H (fun v _ => v = .bl true) fun _ _ _ => False) :
    codeAny (model P w) callerA (.call (.ref fa) ⟨[.ref a], []⟩) (fun r s' => r = .ok (.ret (.bool true)) ∧ OldK s₁.heap s'.heap ∧ s'.os = s₁.os ∧ AllBare s'.gens) s₁ := by
  have rv := vals_ints hi
  have lenV := hi.length
  have aT : a ≠ T := fun z => by rw [z, hT] at ha; cases ha
  have core : ∀ H : Hp, OnlyT T H → SqL K H a (ns.map V.int) → HOk P w H s₁.heap → (∀ b, H b ≠ none → b = a ∨ b = T) → (H a ≠ none → K.lookup a = none) →
      codeAny (model P w) callerA (.call (.ref fa) ⟨[.ref a], []⟩) (fun r s' => r = .ok (.ret (.bool true)) ∧ OldK s₁.heap s'.heap ∧ s'.os = s₁.os ∧ AllBare s'.gens) s₁ := by
    intro H hO hS hok hA hK
    have base_of : ∀ {b : Addr} {o : Obj}, s₁.heap.get? b = some o → H b = none → (hidT s₁.heap H).get? b = some o := fun e n => hidT_get e n
    have noA : ∀ {b : Addr} {o : Obj}, s₁.heap.get? b = some o → o ≠ { cls := .type "list", data := .seq vs.toArray } → o ≠ PySem.W.tabObj #[] → H b = none := fun {b o} e d1 d2 => by
      cases q : H b with
      | none => rfl
      | some u =>
        rcases hA b (by rw [q]; simp) with z | z
        · subst z
          rw [ha] at e; cases e
          exact absurd rfl d1
        · subst z
          rw [hT] at e; cases e
          exact absurd rfl d2
    have nsK : ∀ {b : Addr} {m : Str → Option Value}, s₁.heap.Ns b m → (hidT s₁.heap H).Ns b m := fun {b m} hh => by
      obtain ⟨o, es, ep, e, d, r⟩ := hh
      exact ⟨o, es, ep, base_of e (noA e (fun z => by rw [z] at d; cases d) fun z => by rw [z] at d; cases d), d, r⟩
    have hKb : K.In (hidT s₁.heap H) := fun b o e => base_of (KX b o e) (by
      cases q : H b with
      | none => rfl
      | some u =>
        rcases hA b (by rw [q]; simp) with z | z
        · subst z
          rw [hK (by rw [q]; simp)] at e; cases e
        · subst z
          have h1 := KX b o e
          rw [hT] at h1; cases h1
          have h2 := List.all_eq_true.mp hnt (b, PySem.W.tabObj #[]) (PySem.W.mem_of_lookupK e)
          exact absurd (show false = true from h2) Bool.false_ne_true)
    have hM : Mod K mg (hidT s₁.heap H) := ⟨hKb, nsK hns, ⟨mb, nsK hb, hbb⟩, let ⟨mc, h1, h2⟩ := hlim; ⟨mc, nsK h1, h2⟩⟩
    have hCb : PySem.W.CodeHd (hidT s₁.heap H) c T := by
      obtain ⟨o, vs', file, tf, flags, tg, inF, text, tt, e1, e2, r⟩ := hC
      exact ⟨o, vs', file, tf, flags, tg, inF, text, tt, base_of e1 (noA e1 (fun z => by rw [z] at e2; injection e2 with e2; exact absurd e2 (by decide)) fun z => by rw [z] at e2; cases e2), e2, r⟩
    have hBb : (hidT s₁.heap H).BuiltinsAt mg T := by
      obtain ⟨bm, ob, b1, b2, b3, b4, b5, b6, b7⟩ := hB
      exact ⟨bm, ob, b1, b2, b3, b4, base_of b5 (noA b5 (fun z => by rw [z] at b6; injection b6 with b6; exact absurd b6 (by decide)) fun z => by rw [z] at b6; cases b6), b6, b7⟩
    have e0 : Env0 P w K mg (hidT s₁.heap H) callerA [] s₁ H := ⟨rfl, hM, fun b o e => of_hidT e, Nat.le_of_eq (hidT_size _ _), trivial, fun b hb => absurd (show b ∈ ([] : List Addr) from hb) (by simp), hok, .of_eq hg⟩
    refine codeAny_mono ((F _ hKb (nsK hns) hCb hBb).run callerA [] s₁ H ⟨[.ref a], []⟩ [.ref a] [.ref a] _ _ hr e0 (hbind s₁ (.ref a)) (.cons rfl .nil) (hsp H hO hS)) fun r s' h => ?_
    cases r with
    | error e => exact False.elim h
    | ok fl =>
      cases fl with
      | next => exact False.elim h
      | brk => exact False.elim h
      | cont => exact False.elim h
      | ret u =>
        obtain ⟨v, H', os, bare, un, hok', r', q⟩ := h
        have q' : v = .bl true := q
        subst q'
        obtain rfl : u = Value.bool true := r'
        obtain ⟨more, hmore⟩ := un.tbls T #[] hO.1
        have hT' : s'.heap.get? T = some { cls := .none, data := .fields (#[] ++ more) } := hok' T _ hmore
        have kept : ∀ b o, b ≠ T → s₁.heap.get? b = some o → s'.heap.get? b = some o := fun b o nT e => by
          rcases hO.2 b with z | z | ⟨ob, xs, z⟩
          · exact absurd z nT
          · exact un.keep b o e z (by intro z; exact absurd (show b ∈ ([] : List Addr) from z) (by simp)) (by simp)
          · have z2 := un.frzs b ob _ z
            obtain ⟨e1, _⟩ := hok b _ z
            obtain ⟨e2, _⟩ := hok' b _ z2
            rw [e] at e1; cases e1
            exact e2
        refine ⟨rfl, ⟨fun b o e => ?_, fun b o e => ?_⟩, os, bare⟩
        · by_cases z : b = T
          · subst z
            rw [hT] at e; cases e
            exact .inr (.inl ⟨(hC.tab hT).isCodeTable, rfl, #[], more, rfl, hT'⟩)
          · exact .inl (kept b o z e)
        · by_cases z : b = T
          · subst z; exact ⟨_, hT'⟩
          · exact ⟨o, kept b o z e⟩
  cases hk : K.lookup a with
  | some o =>
    have e := KX a o hk
    rw [ha] at e
    cases e
    refine core (fun b => if b = T then some (.tbl #[]) else none) ⟨if_pos rfl, fun b => ?_⟩ (.inr ⟨_, vs.toArray, _, hk, rfl, rfl, rfl, by rw [List.size_toArray, lenV]; exact hl, by simpa using rv⟩) (fun b u z => ?_) (fun b z => ?_) fun z => absurd (if_neg aT) z
    · by_cases hb : b = T
      · exact .inl hb
      · exact .inr (.inl (if_neg hb))
    · by_cases hb : b = T
      · have z' := (if_pos hb).symm.trans z
        cases z'
        rw [hb]
        exact hT
      · have z' := (if_neg hb).symm.trans z
        cases z'
    · by_cases hb : b = T
      · exact .inr hb
      · exact absurd (if_neg hb) z
  | none =>
    refine core (fun b => if b = T then some (.tbl #[]) else if b = a then some (.frz { cls := .type "list", data := .seq vs.toArray } (.lst (ns.map V.int))) else none) ⟨if_pos rfl, fun b => ?_⟩
      (.inl (.inr ⟨{ cls := .type "list", data := .seq vs.toArray }, (if_neg aT).trans (if_pos rfl)⟩)) (fun b u z => ?_) (fun b z => ?_) fun _ => hk
    · by_cases hb : b = T
      · exact .inl hb
      · by_cases hb2 : b = a
        · exact .inr (.inr ⟨_, _, (if_neg hb).trans (if_pos hb2)⟩)
        · exact .inr (.inl ((if_neg hb).trans (if_neg hb2)))
    · by_cases hb : b = T
      · have z' := (if_pos hb).symm.trans z
        cases z'
        rw [hb]
        exact hT
      · by_cases hb2 : b = a
        · have z' := ((if_neg hb).trans (if_pos hb2)).symm.trans z
          cases z'
          subst hb2
          exact ⟨ha, by rw [List.length_map]; exact hl, vs, _, rv, ha⟩
        · have z' := ((if_neg hb).trans (if_neg hb2)).symm.trans z
          cases z'
    · by_cases hb : b = T
      · exact .inr hb
      · by_cases hb2 : b = a
        · exact .inl hb2
        · exact absurd ((if_neg hb).trans (if_neg hb2)) z
theorem walk_ofT {l : PySem.W.OpenLaw} {n k : Nat} {q : Program} {loose : List Str} {XP : (Str → Option Value) → Heap → Prop} {YP : World → Heap → Prop} {d dj : DefRec} {K : Params → PySem.W.Frag} {sp : World → Sp} {x xj : Str} {c T : Addr}
    (hn : l.most = some n) (hn2 : n ≤ sizeLine) (hdf : d.params.defaults = []) (hr : Room k callerA)
    (hY : ∀ (w : World) (h : Heap), YP w h → (K w.params).In h)
    (hrj : (recsOf q).find? (fun e => e.name == xj) = some dj) (htab : ∀ (w : World) (h : Heap), (K w.params).In h → PySem.W.tabIn (K w.params) xj = some (c, T)) (hnt : ∀ (w : World) (h : Heap), (K w.params).In h → PySem.W.noTabs (K w.params) = true)
    (F : ∀ (w : World) (mg : Str → Option Value) (fa : Addr) (h : Heap), (K w.params).In h → h.Ns mainGlobals mg → mg d.name = some (.ref fa) →
      ∃ fd : FuncData, (∀ (s : Shared) (u : Value), BindsTo s fd ⟨[u], []⟩ [(x, u)]) ∧
        ∀ base : Heap, (K w.params).In base → base.Ns mainGlobals mg → PySem.W.CodeHd base c T → base.BuiltinsAt mg T → FnOk l.prog w (K w.params) mg base CX0 k fa fd [x] (sp w))
    (hsp : ∀ (w : World) (H : Hp) (a : Addr) (ns : List Int), ns.length ≤ n → OnlyT T H → SqL (K w.params) H a (ns.map V.int) → sp w [.ref a] H (fun v _ => v = .bl true) fun _ _ _ => False) :
    PySem.W.WalkO q loose XP YP l.row.toRowW d [] (fun f vs => PySem.call f vs) := by
  refine Att.attach_call hn hdf fun w s₀ s₁ mg mb fa o pm cd doc a vs ns G Y ho hd hcd hmg hobj hints hlen hg => ?_
  have KX := hY w _ Y
  obtain ⟨fd, hb, hF⟩ := F w mg fa _ KX G.T.g hmg
  obtain ⟨hC, hT⟩ := PySem.W.tab_of G.T KX hrj (htab w _ KX)
  have hB : s₁.heap.BuiltinsAt mg T := by
    obtain ⟨bm, ob, b1, b2, b3, b4, b5, b6⟩ := G.T.bmain
    refine ⟨bm, ob, b1, b2, fun z => ?_, fun z => ?_, b3, b4, b5, b6⟩
    · obtain ⟨o', es, ep, e, hd', _⟩ := G.T.g
      rw [z, e] at b3; cases b3; rw [hd'] at b6; cases b6
    · rw [z, hT] at b3; cases b3; cases b4
  exact law_callT KX G.T.g G.T.b G.T.builtins G.T.nolimit hg hC hT (hnt w _ KX) hB hobj hints (Nat.le_trans hlen hn2) hr hF hb (fun H hO hS => hsp w H a ns hlen hO hS)
end L2
namespace Strip
section
variable {M : Type} [DecidableEq M]
abbrev Row (M : Type) := Int × Int × M
def Has (r : Row M) (n : Int) : Prop := r.1 ≤ n ∧ n ≤ r.2.1
instance (r : Row M) (n : Int) : Decidable (Has r n) := by unfold Has; exact inferInstance
def dayOf : List (Row M) → Int → Option M
  | [], _ => none
  | r :: t, n => match dayOf t n with
    | some m => some m
    | none => if Has r n then some r.2.2 else none
theorem dayOf_append (as bs : List (Row M)) (n : Int) : dayOf (as ++ bs) n = (match dayOf bs n with | some m => some m | none => dayOf as n) := by
  induction as with
  | nil => show dayOf bs n = _; cases dayOf bs n <;> rfl
  | cons r t ih =>
    show (match dayOf (t ++ bs) n with | some m => some m | none => if Has r n then some r.2.2 else none) = _
    rw [ih]
    cases e : dayOf bs n with
    | some m => rfl
    | none => rfl
theorem dayOf_snoc (as : List (Row M)) (r : Row M) (n : Int) : dayOf (as ++ [r]) n = if Has r n then some r.2.2 else dayOf as n := by
  rw [dayOf_append]
  show (match (if Has r n then some r.2.2 else none) with | some m => some m | none => dayOf as n) = _
  by_cases h : Has r n
  · rw [if_pos h, if_pos h]
  · rw [if_neg h, if_neg h]
def Apart (r s : Row M) : Prop := r.2.1 < s.1 ∨ s.2.1 < r.1
theorem Apart.symm {r s : Row M} (h : Apart r s) : Apart s r := h.elim .inr .inl
theorem Apart.not_both {r s : Row M} {n : Int} (h : Apart r s) (h1 : Has r n) (h2 : Has s n) : False := by
  unfold Apart at h; unfold Has at h1 h2; omega
structure Disj (rs : List (Row M)) : Prop where
  ap : rs.Pairwise Apart
  le : ∀ r ∈ rs, r.1 ≤ r.2.1
def Lt (r s : Row M) : Prop := r.2.1 < s.1
structure Rising (rs : List (Row M)) : Prop where
  lt : rs.Pairwise Lt
  le : ∀ r ∈ rs, r.1 ≤ r.2.1
theorem Rising.disj {rs : List (Row M)} (h : Rising rs) : Disj rs := ⟨h.lt.imp fun q => .inl q, h.le⟩
theorem Disj.perm {rs rs' : List (Row M)} (h : Disj rs) (p : rs'.Perm rs) : Disj rs' := by
  refine ⟨?_, fun r hr => h.le r (p.mem_iff.mp hr)⟩
  exact (p.pairwise_iff (fun q => q.symm)).mpr h.ap
theorem dayOf_some {rs : List (Row M)} {n : Int} {m : M} (h : dayOf rs n = some m) : ∃ r ∈ rs, Has r n ∧ r.2.2 = m := by
  induction rs with
  | nil => cases h
  | cons r t ih =>
    have h' : (match dayOf t n with | some m => some m | none => if Has r n then some r.2.2 else none) = some m := h
    cases e : dayOf t n with
    | some m' =>
      rw [e] at h'
      obtain ⟨s, hs, q⟩ := ih (e.trans h')
      exact ⟨s, List.mem_cons_of_mem _ hs, q⟩
    | none =>
      rw [e] at h'
      by_cases hr : Has r n
      · have h2 : (if Has r n then some r.2.2 else none) = some m := h'
        rw [if_pos hr] at h2
        exact ⟨r, List.mem_cons_self, hr, Option.some.inj h2⟩
      · have h2 : (if Has r n then some r.2.2 else none) = some m := h'
        rw [if_neg hr] at h2
        cases h2
theorem dayOf_mem {rs : List (Row M)} {n : Int} {r : Row M} (d : Disj rs) (hr : r ∈ rs) (hn : Has r n) : dayOf rs n = some r.2.2 := by
  induction rs with
  | nil => cases hr
  | cons s t ih =>
    obtain ⟨h1, h2⟩ := List.pairwise_cons.mp d.ap
    have dt : Disj t := ⟨h2, fun q hq => d.le q (List.mem_cons_of_mem _ hq)⟩
    show (match dayOf t n with | some m => some m | none => if Has s n then some s.2.2 else none) = _
    rcases List.mem_cons.mp hr with e | hr
    · subst e
      cases e : dayOf t n with
      | some m =>
        obtain ⟨q, hq, hh, _⟩ := dayOf_some e
        exact ((h1 q hq).not_both hn hh).elim
      | none => exact if_pos hn
    · rw [ih dt hr]
theorem dayOf_none {rs : List (Row M)} {n : Int} (h : ∀ r ∈ rs, ¬ Has r n) : dayOf rs n = none := by
  cases e : dayOf rs n with
  | none => rfl
  | some m =>
    obtain ⟨r, hr, q, _⟩ := dayOf_some e
    exact (h r hr q).elim
theorem dayOf_eq_none {rs : List (Row M)} {n : Int} (d : Disj rs) (h : dayOf rs n = none) : ∀ r ∈ rs, ¬ Has r n := fun r hr q => by
  rw [dayOf_mem d hr q] at h; cases h
theorem dayOf_perm {rs rs' : List (Row M)} (d : Disj rs) (p : rs'.Perm rs) (n : Int) : dayOf rs' n = dayOf rs n := by
  cases e : dayOf rs n with
  | some m =>
    obtain ⟨r, hr, q, rfl⟩ := dayOf_some e
    exact dayOf_mem (d.perm p) (p.mem_iff.mpr hr) q
  | none => exact dayOf_none fun r hr => dayOf_eq_none d e r (p.mem_iff.mp hr)
def Beside (r s : Row M) : Prop := r.2.1 + 1 = s.1 ∧ r.2.2 = s.2.2
instance (r s : Row M) : Decidable (Beside r s) := by unfold Beside; exact inferInstance
structure Tidy (rs : List (Row M)) : Prop where
  up : Rising rs
  no : ∀ (i : Nat) (r s : Row M), rs[i]? = some r → rs[i + 1]? = some s → ¬ Beside r s
theorem tidy_nil : Tidy ([] : List (Row M)) := ⟨⟨List.Pairwise.nil, (fun _ h => nomatch h)⟩, fun i r s h _ => by simp at h⟩
theorem Rising.snoc {as : List (Row M)} {r : Row M} (h : Rising as) (hr : r.1 ≤ r.2.1) (hl : ∀ s ∈ as, s.2.1 < r.1) : Rising (as ++ [r]) := by
  refine ⟨List.pairwise_append.mpr ⟨h.lt, List.pairwise_singleton _ _, fun a ha b hb => ?_⟩, fun s hs => ?_⟩
  · rw [List.mem_singleton.mp hb]; exact hl a ha
  · rcases List.mem_append.mp hs with hs | hs
    · exact h.le s hs
    · rw [List.mem_singleton.mp hs]; exact hr
theorem Rising.init {as : List (Row M)} {r : Row M} (h : Rising (as ++ [r])) : Rising as :=
  ⟨(List.pairwise_append.mp h.lt).1, fun s hs => h.le s (List.mem_append_left _ hs)⟩
theorem Rising.last {as : List (Row M)} {r : Row M} (h : Rising (as ++ [r])) : ∀ s ∈ as, s.2.1 < r.1 := fun s hs =>
  (List.pairwise_append.mp h.lt).2.2 s hs r (List.mem_singleton.mpr rfl)
theorem get_snoc {α : Type} (as : List α) (x : α) (i : Nat) : (as ++ [x])[i]? = if i < as.length then as[i]? else if i = as.length then some x else none := by
  by_cases h : i < as.length
  · rw [if_pos h, List.getElem?_append_left h]
  · rw [if_neg h, List.getElem?_append_right (by omega)]
    by_cases h2 : i = as.length
    · rw [if_pos h2, h2]; simp
    · rw [if_neg h2, List.getElem?_eq_none]; simp; omega
theorem Tidy.snoc {as : List (Row M)} {r : Row M} (h : Tidy as) (hr : r.1 ≤ r.2.1) (hl : ∀ s ∈ as, s.2.1 < r.1) (hn : ∀ s, as[as.length - 1]? = some s → ¬ Beside s r) : Tidy (as ++ [r]) := by
  refine ⟨h.up.snoc hr hl, fun i a b ha hb => ?_⟩
  rw [get_snoc] at ha hb
  by_cases h1 : i + 1 < as.length
  · rw [if_pos h1] at hb
    rw [if_pos (by omega)] at ha
    exact h.no i a b ha hb
  · rw [if_neg h1] at hb
    by_cases h2 : i + 1 = as.length
    · rw [if_pos h2] at hb
      rw [if_pos (by omega)] at ha
      cases hb
      have : as.length - 1 = i := by omega
      exact hn a (by rw [this]; exact ha)
    · rw [if_neg h2] at hb; cases hb
theorem Tidy.longer {as : List (Row M)} {l r : Row M} (h : Tidy (as ++ [l])) (hr : r.1 ≤ r.2.1) (hb : Beside l r) : Tidy (as ++ [(l.1, r.2.1, r.2.2)]) := by
  have ll := h.up.le l (List.mem_append_right _ (List.mem_singleton.mpr rfl))
  obtain ⟨b1, b2⟩ := hb
  have up : Rising as := h.up.init
  have t : Tidy as := ⟨up, fun i a b ha hb => h.no i a b (by rw [List.getElem?_append_left (List.getElem?_eq_some_iff.mp ha).1]; exact ha) (by rw [List.getElem?_append_left (List.getElem?_eq_some_iff.mp hb).1]; exact hb)⟩
  refine t.snoc (by show l.1 ≤ r.2.1; omega) (fun s hs => h.up.last s hs) fun s hs hb => ?_
  have hlen : as.length - 1 < as.length := (List.getElem?_eq_some_iff.mp hs).1
  refine h.no (as.length - 1) s l (by rw [List.getElem?_append_left hlen]; exact hs) ?_ ⟨hb.1, ?_⟩
  · have : as.length - 1 + 1 = as.length := by omega
    rw [this]; simp
  · show s.2.2 = l.2.2
    rw [b2]; exact hb.2
theorem dayOf_longer {as : List (Row M)} {l r : Row M} (h : Rising (as ++ [l])) (hr : r.1 ≤ r.2.1) (hb : Beside l r) (n : Int) : dayOf (as ++ [(l.1, r.2.1, r.2.2)]) n = dayOf (as ++ [l] ++ [r]) n := by
  have ll := h.le l (List.mem_append_right _ (List.mem_singleton.mpr rfl))
  obtain ⟨b1, b2⟩ := hb
  rw [dayOf_snoc, dayOf_snoc, dayOf_snoc]
  by_cases h1 : Has r n
  · rw [if_pos h1, if_pos]
    unfold Has at h1 ⊢
    dsimp only
    omega
  · rw [if_neg h1]
    by_cases h2 : Has l n
    · rw [if_pos h2, if_pos, b2]
      unfold Has at h2 ⊢
      dsimp only
      omega
    · rw [if_neg h2, if_neg]
      unfold Has at h1 h2 ⊢
      dsimp only
      omega
structure Joining (pre acc : List (Row M)) : Prop where
  tidy : Tidy acc
  day : ∀ n, dayOf acc n = dayOf pre n
  lo : ∀ k : Int, (∀ r ∈ pre, r.2.1 < k) → ∀ s ∈ acc, s.2.1 < k
  hi : ∀ k : Int, (∀ r ∈ pre, k ≤ r.1) → ∀ s ∈ acc, k ≤ s.1
  len : acc.length ≤ pre.length
  mark : ∀ s ∈ acc, ∃ r ∈ pre, s.2.2 = r.2.2
theorem Joining.nil : Joining ([] : List (Row M)) [] := ⟨tidy_nil, fun _ => rfl, (fun _ _ _ h => nomatch h), (fun _ _ _ h => nomatch h), Nat.le_refl _, (fun _ h => nomatch h)⟩
theorem Joining.put {pre acc : List (Row M)} {r : Row M} (J : Joining pre acc) (hr : r.1 ≤ r.2.1) (hp : ∀ s ∈ pre, s.2.1 < r.1) (hn : ∀ s, acc[acc.length - 1]? = some s → ¬ Beside s r) : Joining (pre ++ [r]) (acc ++ [r]) := by
  refine ⟨J.tidy.snoc hr (J.lo _ hp) hn, fun n => ?_, fun k hk s hs => ?_, fun k hk s hs => ?_, by rw [List.length_append, List.length_append]; have := J.len; simp only [List.length_singleton]; omega, fun s hs => ?_⟩
  · rw [dayOf_snoc, dayOf_snoc, J.day]
  · rcases List.mem_append.mp hs with hs | hs
    · exact J.lo k (fun r hr => hk r (List.mem_append_left _ hr)) s hs
    · exact hk s (List.mem_append_right _ hs)
  · rcases List.mem_append.mp hs with hs | hs
    · exact J.hi k (fun r hr => hk r (List.mem_append_left _ hr)) s hs
    · exact hk s (List.mem_append_right _ hs)
  · rcases List.mem_append.mp hs with hs | hs
    · obtain ⟨q, hq, e⟩ := J.mark s hs
      exact ⟨q, List.mem_append_left _ hq, e⟩
    · exact ⟨s, List.mem_append_right _ hs, rfl⟩
theorem Joining.grow {pre as : List (Row M)} {l r : Row M} (J : Joining pre (as ++ [l])) (hr : r.1 ≤ r.2.1) (hb : Beside l r) : Joining (pre ++ [r]) (as ++ [(l.1, r.2.1, r.2.2)]) := by
  refine ⟨J.tidy.longer hr hb, fun n => ?_, fun k hk s hs => ?_, fun k hk s hs => ?_, ?_, fun s hs => ?_⟩
  · rw [dayOf_longer J.tidy.up hr hb, dayOf_snoc, dayOf_snoc pre, J.day]
  · rcases List.mem_append.mp hs with hs | hs
    · exact J.lo k (fun r hr => hk r (List.mem_append_left _ hr)) s (List.mem_append_left _ hs)
    · rw [List.mem_singleton.mp hs]
      exact hk r (List.mem_append_right _ (List.mem_singleton.mpr rfl))
  · rcases List.mem_append.mp hs with hs | hs
    · exact J.hi k (fun r hr => hk r (List.mem_append_left _ hr)) s (List.mem_append_left _ hs)
    · rw [List.mem_singleton.mp hs]
      exact J.hi k (fun r hr => hk r (List.mem_append_left _ hr)) l (List.mem_append_right _ (List.mem_singleton.mpr rfl))
  · have := J.len
    rw [List.length_append] at this ⊢
    rw [List.length_append]
    simp only [List.length_singleton] at this ⊢
    omega
  · rcases List.mem_append.mp hs with hs | hs
    · obtain ⟨q, hq, e⟩ := J.mark s (List.mem_append_left _ hs)
      exact ⟨q, List.mem_append_left _ hq, e⟩
    · rw [List.mem_singleton.mp hs]
      exact ⟨r, List.mem_append_right _ (List.mem_singleton.mpr rfl), rfl⟩
theorem rising_of_sorted {rs : List (Row M)} (d : Disj rs) (h : rs.Pairwise fun r s => r.1 ≤ s.1) : Rising rs := by
  refine ⟨?_, d.le⟩
  have := List.Pairwise.and_mem.mp (d.ap.and h)
  refine this.imp fun {r s} q => ?_
  obtain ⟨hr, hs, q1, q2⟩ := q
  have l1 := d.le r hr
  have l2 := d.le s hs
  unfold Apart at q1
  unfold Lt
  omega
theorem tidy_unique : ∀ {as bs : List (Row M)}, Tidy as → Tidy bs → (∀ n, dayOf as n = dayOf bs n) → as = bs := by
  have tail : ∀ {r : Row M} {t : List (Row M)}, Tidy (r :: t) → Tidy t := fun {r t} h =>
    ⟨⟨(List.pairwise_cons.mp h.up.lt).2, fun s hs => h.up.le s (List.mem_cons_of_mem _ hs)⟩, fun i a b ha hb => h.no (i + 1) a b (by simpa using ha) (by simpa using hb)⟩
  have first : ∀ {r : Row M} {t : List (Row M)} {n : Int} {m : M}, Tidy (r :: t) → dayOf (r :: t) n = some m → r.1 ≤ n := fun {r t n m} h e => by
    obtain ⟨s, hs, q, _⟩ := dayOf_some e
    rcases List.mem_cons.mp hs with z | hs
    · rw [← z]; exact q.1
    · have := (List.pairwise_cons.mp h.up.lt).1 s hs
      have l := h.up.le r List.mem_cons_self
      unfold Lt at this; unfold Has at q; omega
  have ends : ∀ {r s : Row M} {t u : List (Row M)}, Tidy (r :: t) → Tidy (s :: u) → r.1 = s.1 → r.2.2 = s.2.2 → (∀ n, dayOf (r :: t) n = dayOf (s :: u) n) → ¬ r.2.1 < s.2.1 := fun {r s t u} h1 h2 e1 e2 hd hlt => by
    have lr := h1.up.le r List.mem_cons_self
    have hs : dayOf (s :: u) (r.2.1 + 1) = some s.2.2 := dayOf_mem h2.up.disj List.mem_cons_self ⟨by omega, by omega⟩
    rw [← hd] at hs
    obtain ⟨q, hq, hn, hm⟩ := dayOf_some hs
    rcases List.mem_cons.mp hq with z | hq
    · rw [z] at hn; unfold Has at hn; omega
    · cases t with
      | nil => cases hq
      | cons v t' =>
        have lv : r.2.1 < v.1 := (List.pairwise_cons.mp h1.up.lt).1 v List.mem_cons_self
        have lq : v.1 ≤ q.1 := by
          rcases List.mem_cons.mp hq with z | hq
          · rw [z]; exact Int.le_refl _
          · have := (List.pairwise_cons.mp (tail h1).up.lt).1 q hq
            have l := h1.up.le v (List.mem_cons_of_mem _ List.mem_cons_self)
            unfold Lt at this; omega
        have hv : v.1 = r.2.1 + 1 := by unfold Has at hn; omega
        have lv2 := h1.up.le v (List.mem_cons_of_mem _ List.mem_cons_self)
        have dv : dayOf (r :: v :: t') (r.2.1 + 1) = some v.2.2 := dayOf_mem h1.up.disj (List.mem_cons_of_mem _ List.mem_cons_self) ⟨by omega, by omega⟩
        rw [hd, dayOf_mem h2.up.disj List.mem_cons_self (show Has s (r.2.1 + 1) from ⟨by omega, by omega⟩)] at dv
        exact h1.no 0 r v rfl rfl ⟨hv.symm, by rw [e2]; exact Option.some.inj dv⟩
  intro as
  induction as with
  | nil =>
    intro bs _ hb hd
    cases bs with
    | nil => rfl
    | cons s u =>
      have := dayOf_mem hb.up.disj List.mem_cons_self (show Has s s.1 from ⟨Int.le_refl _, hb.up.le s List.mem_cons_self⟩)
      rw [← hd] at this; cases this
  | cons r t ih =>
    intro bs ha hb hd
    cases bs with
    | nil =>
      have := dayOf_mem ha.up.disj List.mem_cons_self (show Has r r.1 from ⟨Int.le_refl _, ha.up.le r List.mem_cons_self⟩)
      rw [hd] at this; cases this
    | cons s u =>
      have d1 := dayOf_mem ha.up.disj List.mem_cons_self (show Has r r.1 from ⟨Int.le_refl _, ha.up.le r List.mem_cons_self⟩)
      have d2 := dayOf_mem hb.up.disj List.mem_cons_self (show Has s s.1 from ⟨Int.le_refl _, hb.up.le s List.mem_cons_self⟩)
      have g1 := first hb ((hd _).symm.trans d1)
      have g2 := first ha ((hd _).trans d2)
      have e1 : r.1 = s.1 := by omega
      have e2 : r.2.2 = s.2.2 := by rw [hd, e1, d2] at d1; exact (Option.some.inj d1).symm
      have n1 := ends ha hb e1 e2 hd
      have n2 := ends hb ha e1.symm e2.symm fun n => (hd n).symm
      have e3 : r.2.1 = s.2.1 := by omega
      have er : r = s := by
        obtain ⟨a, b, c⟩ := r; obtain ⟨a', b', c'⟩ := s
        simp only at e1 e2 e3
        rw [e1, e2, e3]
      subst er
      refine congrArg _ (ih (tail ha) (tail hb) fun n => ?_)
      by_cases hn : Has r n
      · have a1 : dayOf t n = none := dayOf_none fun q hq hh => by
          have := (List.pairwise_cons.mp ha.up.lt).1 q hq
          unfold Lt at this; unfold Has at hn hh; omega
        have a2 : dayOf u n = none := dayOf_none fun q hq hh => by
          have := (List.pairwise_cons.mp hb.up.lt).1 q hq
          unfold Lt at this; unfold Has at hn hh; omega
        rw [a1, a2]
      · have c : ∀ l : List (Row M), dayOf (r :: l) n = dayOf l n := fun l => by
          show (match dayOf l n with | some m => some m | none => if Has r n then some r.2.2 else none) = _
          cases dayOf l n with
          | some m => rfl
          | none => exact if_neg hn
        rw [← c t, ← c u]; exact hd n
end
end Strip
namespace L2
open PySem PySem.Spec PyProof.Rows
theorem rowsP_len {H : Hp} {ps : List Addr} {rs : List RowV} (h : RowsP H ps rs) : ps.length = rs.length := Paired.length h
theorem rowsP_snoc {H : Hp} {p : Addr} {r : RowV} (hp : H p = some (.tup (tupV r))) (hm : MarkV r.2.2) : ∀ {ps : List Addr} {rs : List RowV}, RowsP H ps rs → RowsP H (ps ++ [p]) (rs ++ [r])
  | _, _, .nil => .cons ⟨hp, hm⟩ .nil
  | _, _, .cons a t => .cons a (rowsP_snoc hp hm t)
theorem rowsP_mono {H H' : Hp} : ∀ {ps : List Addr} {rs : List RowV}, RowsP H ps rs → (∀ p xs, H p = some (.tup xs) → H' p = some (.tup xs)) → RowsP H' ps rs
  | _, _, .nil, _ => .nil
  | _, _, .cons a t, k => .cons ⟨k _ _ a.1, a.2⟩ (rowsP_mono t k)
theorem rowsP_get {H : Hp} {ps : List Addr} {rs : List RowV} (h : RowsP H ps rs) {i : Nat} {p : Addr} (e : ps[i]? = some p) : ∃ r, rs[i]? = some r ∧ H p = some (.tup (tupV r)) ∧ MarkV r.2.2 := paired_get h e
theorem rowsP_last {H : Hp} {l : RowV} : ∀ {as : List RowV} {ps : List Addr}, RowsP H ps (as ++ [l]) → ∃ qs pl, ps = qs ++ [pl] ∧ RowsP H qs as ∧ H pl = some (.tup (tupV l)) ∧ MarkV l.2.2
  | [], _, .cons a t => by cases t; exact ⟨[], _, rfl, .nil, a.1, a.2⟩
  | _ :: _, _, .cons a t => by
    obtain ⟨qs, pl, e, h1, h2⟩ := rowsP_last t
    exact ⟨_ :: qs, pl, by rw [e]; rfl, .cons a h1, h2⟩
theorem rowsL_mono {H H' : Hp} {a : Addr} {rs : List RowV} (h : RowsL H a rs) (ka : ∀ xs, H a = some (.lst xs) → H' a = some (.lst xs)) (k : ∀ p xs, H p = some (.tup xs) → H' p = some (.tup xs)) : RowsL H' a rs := by
  obtain ⟨ps, e, r⟩ := h
  exact ⟨ps, ka _ e, rowsP_mono r k⟩
theorem rowsL_nil {H : Hp} {a : Addr} (e : H a = some (.lst [])) : RowsL H a [] := ⟨[], e, .nil⟩
section
variable {T : Addr} {pos : Pos} {q : Str} {H H' : Hp}
theorem Go.tup (G : Go T pos q H H') (L : LamT T pos q H) {p : Addr} {xs : List V} (e : H p = some (.tup xs)) : H' p = some (.tup xs) := G.at L e fun _ z => by cases z
theorem Go.lst (G : Go T pos q H H') (L : LamT T pos q H) {p : Addr} {xs : List V} (e : H p = some (.lst xs)) : H' p = some (.lst xs) := G.at L e fun _ z => by cases z
theorem Go.dK (G : Go T pos q H H') (L : LamT T pos q H) {p : Addr} {xs : List (Key × V)} (e : H p = some (.dK xs)) : H' p = some (.dK xs) := G.at L e fun _ z => by cases z
theorem Go.rows (G : Go T pos q H H') (L : LamT T pos q H) {a : Addr} {rs : List RowV} (h : RowsL H a rs) : RowsL H' a rs := rowsL_mono h (fun _ e => G.lst L e) fun _ _ e => G.tup L e
theorem Go.none (G : Go T pos q H H') {b : Addr} (e : H' b = .none) (n : b ≠ T) : H b = .none := by
  cases z : H b with
  | none => rfl
  | some o => rw [G.same b o n z] at e; cases e
end
theorem perm_lift {α β : Type} {g : α → β} : ∀ {zs ws : List β}, zs.Perm ws → ∀ xs : List α, ws = xs.map g → ∃ ys : List α, ys.Perm xs ∧ zs = ys.map g := by
  intro zs ws h
  induction h with
  | nil =>
    intro xs e
    cases xs with
    | nil => exact ⟨[], .nil, rfl⟩
    | cons _ _ => cases e
  | cons a _ ih =>
    intro xs e
    cases xs with
    | nil => cases e
    | cons x xs =>
      rw [List.map_cons] at e
      injection e with e1 e2
      obtain ⟨ys, p, e3⟩ := ih xs e2
      exact ⟨x :: ys, p.cons x, by rw [List.map_cons, e1, e3]⟩
  | swap a b l =>
    intro xs e
    cases xs with
    | nil => cases e
    | cons x xs =>
      cases xs with
      | nil => cases e
      | cons y xs =>
        rw [List.map_cons, List.map_cons] at e
        injection e with e1 e2
        injection e2 with e2 e3
        exact ⟨y :: x :: xs, .swap x y xs, by rw [List.map_cons, List.map_cons, e1, e2, e3]⟩
  | trans _ _ ih1 ih2 =>
    intro xs e
    obtain ⟨ys, p, e2⟩ := ih2 xs e
    obtain ⟨zs, p2, e3⟩ := ih1 ys e2
    exact ⟨zs, p2.trans p, e3⟩
theorem rowsP_zip {H : Hp} : ∀ {ps : List Addr} {rs : List RowV}, RowsP H ps rs → ∀ z ∈ ps.zip rs, H z.1 = some (.tup (tupV z.2)) ∧ MarkV z.2.2.2
  | _, _, .nil, z, hz => by cases hz
  | _, _, .cons a t, z, hz => by
    rw [List.zip_cons_cons] at hz
    rcases List.mem_cons.mp hz with e | hz
    · rw [e]; exact a
    · exact rowsP_zip t z hz
theorem rowsP_of {H : Hp} : ∀ {ys : List (Addr × RowV)}, (∀ z ∈ ys, H z.1 = some (.tup (tupV z.2)) ∧ MarkV z.2.2.2) → RowsP H (ys.map (·.1)) (ys.map (·.2))
  | [], _ => .nil
  | z :: ys, h => .cons (h z List.mem_cons_self) (rowsP_of fun y hy => h y (List.mem_cons_of_mem _ hy))
theorem rows_sorted {H : Hp} {ps : List Addr} {rs : List RowV} (h : RowsP H ps rs) {zs : List (Int × Addr)} (p : zs.Perm ((rs.map (·.1)).zip ps)) (s : zs.Pairwise fun a b => a.1 ≤ b.1) :
    ∃ qs ss, RowsP H qs ss ∧ ss.Perm rs ∧ (ss.Pairwise fun r t => r.1 ≤ t.1) ∧ (zs.map fun z => V.ref z.2) = qs.map V.ref := by
  have hl := rowsP_len h
  have e : (rs.map (·.1)).zip ps = (ps.zip rs).map fun z => (z.2.1, z.1) := by
    clear p s hl
    unfold RowsP at h
    induction h with
    | nil => rfl
    | cons _ _ ih => rw [List.map_cons, List.zip_cons_cons, List.zip_cons_cons, List.map_cons, ih]
  rw [e] at p
  obtain ⟨ys, py, ez⟩ := perm_lift p _ rfl
  refine ⟨ys.map (·.1), ys.map (·.2), rowsP_of fun z hz => rowsP_zip h z (py.mem_iff.mp hz), ?_, ?_, ?_⟩
  · have := py.map (·.2)
    rw [List.map_snd_zip (by omega)] at this
    exact this
  · rw [List.pairwise_map]
    rw [ez, List.pairwise_map] at s
    exact s
  · rw [ez, List.map_map, List.map_map]
    rfl
end L2
namespace L2
open PySem PySem.Spec PyProof.Rows
section
variable {X : Cx}
theorem call_isinst : CallR X (.builtin "isinstance") (fun xs H Q => ∃ x n t b, xs = [x, .ty n] ∧ TyOf X.K H x t ∧ PySem.W.kitOne X.K t (.type n) = some b ∧ Q (.bl b) H) := by
  intro pins s σ H xs us Q I r h
  obtain ⟨x, n, t, b, rfl, ty, e, q⟩ := h
  obtain ⟨u, u2, rfl, rx, rt⟩ := vals2 r
  cases (show u2 = Value.type n from rt)
  exact isinst_ok I rx ty e fun tk => ⟨.bl b, H, I.tok _, rfl, q⟩
end
structure DayG (kvs : List (Key × V)) (f : Int → Option V) : Prop where
  nd : (kvs.map (·.1)).Nodup
  val : ∀ n : Int, valV kvs (Sum.inl n) = f n
  txt : ∀ x : Str, valV kvs (Sum.inr x) = none
  mark : ∀ p ∈ kvs, MarkV p.2
end L2
namespace L2
open PySem PySem.Spec PyProof.Rows
theorem ixN_last (n : Nat) : ixN (n + 1) (-1) = some n := by
  unfold ixN
  rw [if_neg (by decide), if_pos (by omega)]
  congr 1
  omega
theorem push_row {H : Hp} {st p : Addr} {as : List Addr} {acc : List RowV} {r : RowV} (hst : H st = some (.lst (as.map V.ref))) (hrs : RowsP H as acc) (np : H p = none) (hm : MarkV r.2.2) :
    RowsL (upd (upd H p (.tup (tupV r))) st (.lst (as.map V.ref ++ [V.ref p]))) st (acc ++ [r]) ∧ ∀ b o, b ≠ st → H b = some o → upd (upd H p (.tup (tupV r))) st (.lst (as.map V.ref ++ [V.ref p])) b = some o := by
  have ps : p ≠ st := fun z => by rw [z, hst] at np; cases np
  have keep : ∀ b o, b ≠ st → H b = some o → upd (upd H p (.tup (tupV r))) st (.lst (as.map V.ref ++ [V.ref p])) b = some o := fun b o n e => by
    rw [upd_ne n, upd_ne (ne_of_none e np)]; exact e
  refine ⟨⟨as ++ [p], ?_, rowsP_snoc ?_ hm (rowsP_mono hrs fun b xs e => keep b _ (ne_of e hst (by intro z; cases z)) e)⟩, keep⟩
  · rw [upd_same, List.map_append]; rfl
  · rw [upd_ne ps, upd_same]
theorem swap_row {H : Hp} {st p pl : Addr} {qs : List Addr} {acc : List RowV} {r : RowV} (hst : H st = some (.lst ((qs ++ [pl]).map V.ref))) (hrs : RowsP H qs acc) (np : H p = none) (hm : MarkV r.2.2) :
    RowsL (upd (upd H p (.tup (tupV r))) st (.lst (((qs ++ [pl]).map V.ref).set qs.length (V.ref p)))) st (acc ++ [r]) ∧ ∀ b o, b ≠ st → H b = some o → upd (upd H p (.tup (tupV r))) st (.lst (((qs ++ [pl]).map V.ref).set qs.length (V.ref p))) b = some o := by
  have ps : p ≠ st := fun z => by rw [z, hst] at np; cases np
  have keep : ∀ b o, b ≠ st → H b = some o → upd (upd H p (.tup (tupV r))) st (.lst (((qs ++ [pl]).map V.ref).set qs.length (V.ref p))) b = some o := fun b o n e => by
    rw [upd_ne n, upd_ne (ne_of_none e np)]; exact e
  refine ⟨⟨qs ++ [p], ?_, rowsP_snoc ?_ hm (rowsP_mono hrs fun b xs e => keep b _ (ne_of e hst (by intro z; cases z)) e)⟩, keep⟩
  · rw [upd_same, List.map_append, List.map_append, List.set_append]
    simp
  · rw [upd_ne ps, upd_same]
theorem LamT.row {T : Addr} {pos : Pos} {q : Str} {H : Hp} (L : LamT T pos q H) {st p : Addr} {xs ys zs : List V} (hst : H st = some (.lst xs)) (np : H p = none) : LamT T pos q (upd (upd H p (.tup zs)) st (.lst ys)) := by
  refine (L.upd_new np).upd_own (u := .lst xs) ?_ (fun _ z => by cases z) fun _ z => by cases z
  rw [upd_ne (ne_of_none hst np)]; exact hst
end L2
namespace Strip
section
variable {M : Type} [DecidableEq M]
structure DG (cs : List (Row M)) (g : Int → Option M) : Prop where
  dj : Disj cs
  day : ∀ n, dayOf cs n = g n
theorem DG.nil : DG ([] : List (Row M)) fun _ => none := ⟨⟨List.Pairwise.nil, (fun _ h => nomatch h)⟩, fun _ => rfl⟩
theorem DG.eq {cs : List (Row M)} {g g' : Int → Option M} (h : DG cs g) (e : ∀ n, g n = g' n) : DG cs g' := ⟨h.dj, fun n => (h.day n).trans (e n)⟩
theorem DG.put {cs : List (Row M)} {g : Int → Option M} {c : Row M} (h : DG cs g) (hc : c.1 ≤ c.2.1) (no : ∀ n, Has c n → g n = none) : DG (cs ++ [c]) (fun n => if Has c n then some c.2.2 else g n) := by
  refine ⟨⟨List.pairwise_append.mpr ⟨h.dj.ap, List.pairwise_singleton _ _, fun a ha b hb => ?_⟩, fun s hs => ?_⟩, fun n => ?_⟩
  · rw [List.mem_singleton.mp hb]
    have la := h.dj.le a ha
    unfold Apart
    by_cases h1 : a.2.1 < c.1
    · exact .inl h1
    · by_cases h2 : c.2.1 < a.1
      · exact .inr h2
      · exfalso
        by_cases h3 : a.1 ≤ c.1
        · have := no c.1 ⟨Int.le_refl _, hc⟩
          rw [← h.day, dayOf_mem h.dj ha ⟨h3, by omega⟩] at this
          cases this
        · have := no a.1 ⟨by omega, by omega⟩
          rw [← h.day, dayOf_mem h.dj ha ⟨Int.le_refl _, la⟩] at this
          cases this
  · rcases List.mem_append.mp hs with hs | hs
    · exact h.dj.le s hs
    · rw [List.mem_singleton.mp hs]; exact hc
  · rw [dayOf_snoc, h.day]
theorem Disj.ahead {rs : List (Row M)} (d : Disj rs) {i : Nat} {r : Row M} (e : rs[i]? = some r) {n : Int} (h : Has r n) : dayOf (rs.take i) n = none := by
  refine dayOf_none fun s hs hh => ?_
  obtain ⟨hlt, e2⟩ := List.getElem?_eq_some_iff.mp e
  obtain ⟨j, hj, ej⟩ := List.mem_iff_getElem.mp hs
  rw [List.length_take] at hj
  rw [List.getElem_take] at ej
  have := List.pairwise_iff_getElem.mp d.ap j i (by omega) hlt (by omega)
  rw [ej, e2] at this
  exact this.not_both hh h
theorem take_snoc {α : Type} {rs : List α} {i : Nat} {r : α} (e : rs[i]? = some r) : rs.take (i + 1) = rs.take i ++ [r] := by rw [List.take_add_one, e]; rfl
def laidG (m : M) (rs : List (Row M)) (f l : Int) : Int → Option M := fun n => if f ≤ n ∧ n ≤ l then some m else dayOf rs n
end
end Strip
namespace L2
open PySem PySem.Spec PyProof.Rows
def compX (X : Cx) (scope : Scope) (cl : List (Str × Addr)) (N : List Str) (C : Addr) (fp : List Addr) (s : Shared) (H : Hp) : Cx where
  prog := X.prog
  w := X.w
  K := X.K
  mg := X.mg
  base := X.base
  A := X.A
  N := N
  s₀ := s
  H₀ := H
  env := compEnvC scope cl C X.env
  outer := X.stack
  stack := X.stack
  ex := fp
  fn := fun _ => false
  calm := true
  pn := []
  xe := fun _ _ => False
def subσ (sub : List Nat) (σ : St) : St := sub.map fun i => (σ[i]?).join
def PTs (X : Cx) (ifs : List Expr) (t : TT) : Prop :=
  ∀ (pins : List (Addr × Obj)) (s : Shared) (σ : St) (H : Hp) (Q : Bool → Hp → Prop), Inv X pins σ H s → t σ H Q →
    wpAny (model X.prog X.w) X.A (forIn ifs true fun c r => if r = true then do let ok ← isTrue c X.env (eval c X.env); pure (ForInStep.yield ok) else pure (ForInStep.yield r)) (TP X pins σ Q) X.xe s
theorem pts_nil {X : Cx} : PTs X [] (fun _ H Q => Q true H) := fun _ _ _ H _ I h => wpAny_tests_nil ⟨H, I, h⟩
theorem pts_one {X : Cx} {c : Expr} {t : TT} (h : PT X c t) : PTs X [c] t := fun pins s σ H Q I q => wpAny_tests_one (h pins s σ H Q I q)
def tComp (wi : TI) (sub : List Nat) (tt : TT) (te : TE) : TE := fun σ H Q => wi σ H fun J H1 => ∀ D, H1 D = none → ∃ W : Nat → Nat → List V → Hp → Prop, (∃ m, W 0 m [] (upd H1 D (.lst []))) ∧ ∀ i m ys H2, W i m ys H2 →
  (J.stop i H2 ∧ Q (.ref D) H2) ∨ (J.go i H2 ∧ ∃ N : List V → Hp → Prop, (∀ ys' H', N ys' H' → ∃ m', m' < m ∧ W (i + 1) m' ys' H') ∧ ∀ v H3, J.yld i H2 v H3 → tt (some v :: subσ sub σ) H3 fun b H4 => if b = true then
    te (some v :: subσ sub σ) H4 fun y H5 => H5 D = some (.lst ys) ∧ ys.length < sizeLine ∧ N (ys ++ [y]) (upd H5 D (.lst (ys ++ [y])))
    else N ys H4)
def PEC (X : Cx) (e iter : Expr) (scope : Scope) (te : TE) : Prop :=
  ∀ (pos : Pos) (pins : List (Addr × Obj)) (s : Shared) (σ : St) (H : Hp) (Q : VK) (use : Option (Value → Sem Unit)) (QV : Value → Shared → Prop), Inv X pins σ H s → te σ H Q →
    (∀ (D C : Addr) (H' : Hp) (s' : Shared), Inv X pins σ H' s' → FpOk X pins H' C → (∃ m, s'.heap.Ns C m) → Q (.ref D) H' → compPost (model X.prog X.w) X.A X.xe use QV (.ref D) C (.ok .next) s') →
    wpAny (model X.prog X.w) X.A (comprehension e scope X.env pos (newList []) false (eval iter X.env) use) QV X.xe s
theorem FpOk.turn {X : Cx} {pins : List (Addr × Obj)} {σ : St} {H : Hp} {s : Shared} {h' : Heap} {C : Addr} (f : FpOk X pins H C) (I : Inv X pins σ H s) (hs : Heap.SameBut C s.heap h') : Inv X pins σ H { s with heap := h' } :=
  I.turned (h' := h') (t' := s.toks) (it := C) (fun b o n e => (hs.2 b n).trans e) f.1 f.2.1 f.2.2.2.1 f.2.2.2.2.1 f.2.2.2.2.2
theorem pe_of {X : Cx} {elt tg iter : Expr} {ifs : List Expr} {scope : Scope} {pos : Pos} {te : TE} (h : PEC X (.ListComp elt [⟨tg, iter, ifs, 0⟩] scope pos) iter scope te) : PE X (.ListComp elt [⟨tg, iter, ifs, 0⟩] scope pos) te := by
  intro pins s σ H Q I q
  rw [eval_ListComp]
  refine h _ pins s σ H Q none _ I q fun D C H' s' K1 fC ⟨m, hm⟩ q => ⟨m, hm, fun h' hsb' => ⟨.ref D, H', fC.turn K1 hsb', rfl, q⟩⟩
theorem ps_setC {X : Cx} {elt tg iter : Expr} {ifs : List Expr} {scope : Scope} {pos spos py : Pos} {te : TE} {i : Nat} {y : Str} (hN : X.N.Nodup) (hi : X.N[i]? = some y) (hx : Loc X.env.scope y)
    (h : PEC X (.ListComp elt [⟨tg, iter, ifs, 0⟩] scope pos) iter scope te) (hsw : swapsWith (.ListComp elt [⟨tg, iter, ifs, 0⟩] scope pos) (some (.Name y py)) spos.line X.env = pure true := by rfl)
    (hf : X.fn y = true ∨ X.env.scope.names.lookup y = some .local := by first | exact .inl rfl | exact .inr rfl | assumption) : PS X (.Assign [.Name y py] (.ListComp elt [⟨tg, iter, ifs, 0⟩] scope pos) spos) (tAsg te (gName i)) := by
  intro pins s σ H D I q
  rw [exec_Assign_Name_used _ _ _ _ hsw]
  refine wpAny_bind (wpAny_standAt (wpAny_bind ?_))
  show wpAny _ X.A (do let _ ← comprehension (.ListComp elt [⟨tg, iter, ifs, 0⟩] scope pos) scope X.env _ (newList []) false (eval iter X.env) (some (assign (.Name y py) X.env))) _ _ s
  refine wpAny_bind (wpAny_mono (h _ pins s σ H _ (some (assign (.Name y py) X.env)) (fun _ s' => SP X pins D .next s') I q fun Da C H' s' K1 fC hm q => ?_) (fun _ s' hq => wpAny_pure (wpAny_pure hq)) fun _ _ e => e)
  show wpAny _ X.A (assign (.Name y py) X.env (.ref Da)) _ _ _
  refine wpAny_assign_Name (store_ok2 K1 hN hi hx (v := .ref Da) rfl (fun s2 I2 hh => ?_) hf)
  obtain ⟨m, hm⟩ := hm
  obtain ⟨a, hsb, ha⟩ := hh
  have hne : C ≠ a := by
    rcases ha with z | z
    · rw [z]; exact fC.2.1
    · exact fun e => fC.2.2.2.2.1 _ _ z e.symm
  exact ⟨m, hm.sameBut hsb hne, fun h' hs' => ⟨_, H', fC.turn I2 hs', q⟩⟩
section
variable {X : Cx}
theorem pec_comp {elt iter : Expr} {x : Str} {px pos : Pos} {ifs : List Expr} {scope : Scope} {cl : List (Str × Addr)} {sub : List Nat} {fv : List Str} {wi : TI} {tt : TT} {te : TE}
    (hc : X.calm = true) (hi : PI X (.Name x px) iter wi) (hclos : closureFor scope X.env = pure cl)
    (hcell : ∀ y ∈ scope.names, y.2 ≠ .cell) (hkind : scope.kind = .function) (hnames : ∀ y ∈ scope.names, y.2 = .local → scope.names.lookup y.1 = some .local) (hx : scope.names.lookup x = some .local)
    (hnd : (x :: fv).Nodup) (hl : sub.length = fv.length) (hsub : ∀ (j : Nat) (i : Nat) (y : Str), sub[j]? = some i → fv[j]? = some y → X.N[i]? = some y ∧ Vis X.env.scope y ∧ X.env.kindOf y ≠ some .local)
    (hvis : ∀ y ∈ fv, (compEnvC scope cl 0 X.env).kindOf y = some .cell ∨ (compEnvC scope cl 0 X.env).kindOf y = some .free)
    (hcl : ∀ y c, cl.lookup y = some c → X.env.cells.lookup y = some c) (hcl2 : ∀ y ∈ fv, cl.lookup y = X.env.cells.lookup y)
    (hhas : ∀ y, ((compEnvC scope cl 0 X.env).kindOf y = some .cell ∨ (compEnvC scope cl 0 X.env).kindOf y = some .free) → ∃ c, cl.lookup y = some c)
    (ht : ∀ C fp s H, PTs (compX X scope cl (x :: fv) C fp s H) ifs tt) (he : ∀ C fp s H, PE (compX X scope cl (x :: fv) C fp s H) elt te)
    (hs : ∀ x, foldedSetIterable iter X.env x = pure x := by intro _; rfl) : PEC X (.ListComp elt [⟨.Name x px, iter, ifs, 0⟩] scope pos) iter scope (tComp wi sub tt te) := by
  intro upos pins s σ H Q use QV I h hend
  refine wpAny_comprehension_free (use := use) rfl hs hclos hkind hnames ?_
  refine thn (hi pins s σ H _ I h) fun v s1 h1 => thn h1 fun itv s2 h2 => ?_
  obtain ⟨it, fp, tn, J, H2, e, I2, T, st2, f2, h⟩ := h2
  subst e
  refine wpAny_newList ?_ (Nat.zero_le _)
  have nD : H2 s2.heap.objs.size = none := I2.hok.fresh (Nat.le_refl _)
  obtain ⟨W, ⟨m0, w0⟩, turn⟩ := h s2.heap.objs.size nD
  have I3 := I2.lnew (ys := []) (its := []) (t' := s2.toks) .nil (Nat.zero_le _)
  generalize hs3 : ({ s2 with heap := s2.heap.push { cls := .type "list", data := .seq ([] : List Value).toArray }, toks := s2.toks } : Shared) = s3 at I3
  have hDlt : s2.heap.objs.size < s3.heap.objs.size := by rw [← hs3]; show _ < (s2.heap.push _).objs.size; rw [Heap.size_push]; exact Nat.lt_succ_self _
  have old3 : ∀ b o, s2.heap.get? b = some o → s3.heap.get? b = some o := fun b o e => by rw [← hs3]; exact Heap.get?_push_of_some _ e
  generalize hD : s2.heap.objs.size = D at *
  refine wpAny_newFunctionEnv hcell (by intro y hy; simp at hy) (fun h₁ hns hsb => ?_) hkind
  generalize hC : s3.heap.objs.size = C at *
  have kept : ∀ b o, s3.heap.get? b = some o → h₁.get? b = some o := fun b o e => (hsb.2 b (by rw [← hC]; exact Nat.ne_of_lt (Heap.lt_size e))).trans (Heap.get?_push_of_some _ e)
  have nC : upd H2 D (.lst []) C = none := I3.hok.fresh (Nat.le_of_eq hC)
  have fC : FpOk X pins (upd H2 D (.lst [])) C := I3.fpOk (Nat.le_of_eq hC) nC
  have fp3 : ∀ b ∈ fp, b < s2.heap.objs.size := fun b hb => by obtain ⟨o, e, _⟩ := T.obj _ _ st2 b hb; exact Heap.lt_size e
  have fpC : ∀ b ∈ fp, b ≠ C := fun b hb => by rw [← hC]; exact Nat.ne_of_lt (Nat.lt_of_lt_of_le (fp3 b hb) (by rw [hD]; exact Nat.le_of_lt (hC ▸ hDlt)))
  have fpD : ∀ b ∈ fp, b ≠ D := fun b hb => by rw [← hD]; exact Nat.ne_of_lt (fp3 b hb)
  have ok' : (compX X scope cl (x :: fv) C fp s3 (upd H2 D (.lst []))).Ok := by
    refine ⟨I.ok.mod, hkind, I.ok.glob, I.ok.blt, Nat.le_of_eq hC, fun y z c e1 e2 => I.ok.inj y z c (hcl y c e1) (hcl z c e2), fun y hy => hhas y hy, (fun y c e _ => by cases e), fun _ => I.ok.hd hc, I.ok.frames, .inl rfl, fun b hb => ⟨fpC b hb, fun y c e => (f2 b hb).2.2.2.2.1 y c (hcl y c e)⟩, I3.bs, Nat.le_trans I.ok.bsz I3.sz,
      fun b o e hb => ?_, fun b hb hf => ?_, I3.stack, I3.stkFree⟩
    · rcases (f2 b hb).2.2.2.1 with z | z
      · exact I.ok.noex b o e z
      · exact absurd (Nat.lt_of_lt_of_le (Heap.lt_size e) (Nat.le_trans I.ok.bsz z)) (Nat.lt_irrefl _)
    · rcases List.mem_cons.mp (I3.stkSub b hf) with z | z
      · exact (f2 b hb).2.1 z
      · exact (f2 b hb).2.2.1 z
  have lenσ : ∀ v0 : Option V, (v0 :: subσ sub σ).length = (x :: fv).length := fun v0 => by
    show (subσ sub σ).length + 1 = fv.length + 1
    unfold subσ
    rw [List.length_map, hl]
  have I4 : ∀ t', Inv (compX X scope cl (x :: fv) C fp s3 (upd H2 D (.lst []))) [] (none :: subσ sub σ) (upd H2 D (.lst [])) { s3 with heap := h₁, toks := t' } := fun t' => by
    refine ⟨ok', rfl, I3.bare, Un.kept kept, ⟨_, hns, fun i y v e1 e2 e3 => ?_⟩, fun y c e => ?_, nC, fun y c e => I3.freeC y c (hcl y c e), (fun p hp => by cases hp), I3.hok.kept kept, lenσ none⟩
    · cases i with
      | zero => cases e2
      | succ j =>
        have e1 : (x :: fv)[j + 1]? = some y := e1
        have e1 : fv[j]? = some y := by simpa using e1
        have e2 : (subσ sub σ)[j]? = some (some v) := by simpa using e2
        unfold subσ at e2
        rw [List.getElem?_map] at e2
        cases ei : sub[j]? with
        | none => rw [ei] at e2; cases e2
        | some i =>
          rw [ei] at e2
          have e2 : (σ[i]?).join = some v := Option.some.inj e2
          obtain ⟨n1, n2, n3⟩ := hsub j i y ei e1
          have e4 : σ[i]? = some (some v) := by
            cases q : σ[i]? with
            | none => rw [q] at e2; cases e2
            | some w' => rw [q] at e2; cases w' with
              | none => cases e2
              | some v' => cases e2; rfl
          obtain ⟨m, hn, hl'⟩ := I3.loc
          obtain ⟨u, ru, lu⟩ := hl' i y v n1 e4 n2
          refine ⟨u, ru, ?_⟩
          rcases lu with ⟨k1, _⟩ | ⟨k1, c, ec, ic⟩
          · exact absurd k1 n3
          · have hy := List.mem_of_getElem? e1
            exact .inr ⟨hvis y hy, c, (hcl2 y hy).trans ec, ic.keeps kept⟩
    · obtain ⟨v, z⟩ := I3.cell y c (hcl y c e)
      exact ⟨v, z.keeps kept⟩
  have back : ∀ {σ' : St} {H' : Hp} {s' : Shared}, Inv (compX X scope cl (x :: fv) C fp s3 (upd H2 D (.lst []))) [] σ' H' s' → Q (.ref D) H' →
      compPost (model X.prog X.w) X.A X.xe use QV (.ref D) C (.ok .next) s' := fun {σ' H' s'} J' q => by
    obtain ⟨m, hm, _⟩ := id J'.loc
    have hos : s'.os = s3.os := J'.os
    have K1 : Inv X pins σ H' s' := I3.call' (ch := fp) hos J'.base J'.hok J'.bare fun b hb => ⟨(f2 b hb).2.2.2.1, (f2 b hb).2.1, (f2 b hb).2.2.2.2.1, (f2 b hb).2.2.2.2.2⟩
    exact hend D C H' s' K1 ⟨J'.free, fC.2⟩ ⟨m, hm⟩ q
  have stat : ∀ {H' : Hp}, (∀ b ∈ fp, H' b = none) → ∀ b ∈ fp, FpOk (compX X scope cl (x :: fv) C fp s3 (upd H2 D (.lst []))) [] H' b := fun hn b hb =>
    ⟨hn b hb, fpC b hb, ok'.exfs b hb, .inl hb, (ok'.exf b hb).2, (fun p hp => by cases hp)⟩
  have hg : PG (compX X scope cl (x :: fv) C fp s3 (upd H2 D (.lst []))) (.Name x px) (gName 0) := pg_name (i := 0) hnd rfl (.inl (lookup_relabel_local hx)) (.inr (lookup_relabel_local hx))
  have hgo : ∀ v : Value, letOwnedTupleGo (.Name x px) (.ref it) v = pure () := fun _ => rfl
  have loop : ∀ t', codeAny (model X.prog X.w) X.A (.compLoop (.ListComp elt [⟨.Name x px, iter, ifs, 0⟩] scope pos) 0 (.ref it) (.ref D) (compEnvC scope cl C X.env)) (compPost (model X.prog X.w) X.A X.xe use QV (.ref D) C) { s3 with heap := h₁, toks := t' } := fun t' => by
    refine codeAny_compLoop_tests (fun n s' => ∃ (i : Nat) (ys : List V) (H' : Hp) (v0 : Option V), Inv (compX X scope cl (x :: fv) C fp s3 (upd H2 D (.lst []))) [] (v0 :: subσ sub σ) H' s' ∧ tn i s'.heap ∧ (∀ b ∈ fp, H' b = none) ∧ W i n ys H') ?_ m0
      ⟨0, [], _, none, I4 t', T.keep _ _ _ st2 (fun b hb o e => kept b o (old3 b o e)), fun b hb => by rw [upd_ne (fpD b hb)]; exact (f2 b hb).1, w0⟩
    rintro n s5 ⟨i, ys, H5, v0, I5, st5, fr5, w5⟩
    rcases turn i n ys H5 w5 with ⟨stop, q⟩ | ⟨go, NN, hNN, step⟩
    · refine wpAny_mono (T.done (compX X scope cl (x :: fv) C fp s3 (upd H2 D (.lst []))) rfl rfl rfl rfl i [] s5 _ H5 (fun _ _ => False) I5 (stat fr5) st5 stop) (fun r s6 hh => ?_) fun _ _ f => f.elim
      obtain ⟨hr, I6⟩ := hh
      subst hr
      exact back I6 q
    · refine wpAny_mono (T.item (compX X scope cl (x :: fv) C fp s3 (upd H2 D (.lst []))) rfl rfl rfl rfl i [] s5 _ H5 (fun _ _ => False) I5 (stat fr5) st5 go) (fun r s6 hh => ?_) fun _ _ f => f.elim
      obtain ⟨u, hr, h6⟩ := hh
      subst hr
      show wpAny _ _ (assign (.Name x px) (compEnvC scope cl C X.env) u) _ _ _
      rw [hgo] at h6
      rw [← pure_bind () fun _ : Unit => assign (.Name x px) (compEnvC scope cl C X.env) u]
      refine wpAny_bind (wpAny_mono h6 (fun _ s7 hh => ?_) fun _ _ f => f.elim)
      obtain ⟨v, H7, I7, r7, y7, st7, fr7⟩ := hh
      have I7' := I7.pinned (stat fr7) (T.obj _ _ st7)
      refine wpAny_mono (hg _ s7 _ H7 v u (fun σ' H' => σ' = some v :: subσ sub σ ∧ H' = H7) I7' r7 ⟨rfl, rfl⟩) (fun _ s8 hh => ?_) fun _ _ f => f.elim
      obtain ⟨σ8, H8, I8, rfl, rfl⟩ := hh
      have again : ∀ {H9 : Hp} {s9 : Shared} {ys9 : List V} {m9 : Nat}, Inv (compX X scope cl (x :: fv) C fp s3 (upd H2 D (.lst []))) ([] ++ pinsAt fp s7.heap) (some v :: subσ sub σ) H9 s9 → m9 < n → W (i + 1) m9 ys9 H9 →
          ∃ m, m < n ∧ ∃ (i : Nat) (ys : List V) (H' : Hp) (v0 : Option V), Inv (compX X scope cl (x :: fv) C fp s3 (upd H2 D (.lst []))) [] (v0 :: subσ sub σ) H' s9 ∧ tn i s9.heap ∧ (∀ b ∈ fp, H' b = none) ∧ W i m ys H' := fun {H9 s9 ys9 m9} I9 hm w9 => by
        refine ⟨m9, hm, i + 1, ys9, H9, _, I9.unpinned, T.keep _ _ _ st7 fun b hb o e => (I9.pin (b, o) (List.mem_append_right _ (List.mem_append_right _ (mem_pinsAt hb e)))).1, fun b hb => ?_, w9⟩
        obtain ⟨o, e, d⟩ := T.obj _ _ st7 b hb
        exact (I9.pin (b, o) (List.mem_append_right _ (List.mem_append_right _ (mem_pinsAt hb e)))).2.1
      refine wpAny_mono (ht C fp s3 _ _ s8 _ H8 _ I8 (step v H8 y7)) (fun ok s9 hh => ?_) fun _ _ f => f.elim
      obtain ⟨H9, I9, q9⟩ := hh
      cases ok with
      | false =>
        rw [if_neg Bool.false_ne_true] at q9 ⊢
        obtain ⟨m', hm, w'⟩ := hNN _ _ q9
        exact again I9 hm w'
      | true =>
        rw [if_pos rfl] at q9 ⊢
        refine wpAny_mono (he C fp s3 _ _ s9 _ H9 _ I9 q9) (fun xv sa hh => ?_) fun _ _ f => f.elim
        obtain ⟨y, Ha, Ia, ra, hDa, hsz, qa⟩ := hh
        obtain ⟨m', hm, w'⟩ := hNN _ _ qa
        refine wpAny_mono (mt_append (X := compX X scope cl (x :: fv) C fp s3 (upd H2 D (.lst []))) _ sa _ Ha (.ref D) [y] (.ref D) [xv] (fun _ H' => H' = upd Ha D (.lst (ys ++ [y]))) Ia rfl (.cons ra .nil) ⟨D, ys, y, rfl, rfl, hDa, hsz, rfl⟩) (fun _ sb hh => ?_) fun _ _ f => f.elim
        obtain ⟨_, Hb, Ib, _, rfl⟩ := hh
        exact again Ib hm w'
  exact codeAny_compStart_list (loop _) (T.self X.A 0 _ _ _ (T.keep _ _ _ st2 (fun b hb o e => kept b o (old3 b o e))) (loop _))
end
end L2
namespace Strip
section
variable {M : Type} [DecidableEq M]
structure Full (rs : List (Row M)) (a b : Int) (g : Int → M) : Prop where
  tidy : Tidy rs
  day : ∀ n, dayOf rs n = if a ≤ n ∧ n ≤ b then some (g n) else none
structure Part (cs : List (Row M)) (f day : Int) (G : Int → M) : Prop where
  tidy : Tidy cs
  day : ∀ n, dayOf cs n = if f ≤ n ∧ n < day then some (G n) else none
end
end Strip
namespace L2
open PySem PySem.Spec PyProof.Rows
mutual
inductive DatV (H : Hp) : V → PySem.W.Dat → Prop
  | non : DatV H .non .none
  | int (i : Int) : DatV H (.int i) (.int i)
  | str (x : Str) : DatV H (.str x) (.str x)
  | tup {a : Addr} {xs : List V} {ds : List PySem.W.Dat} : H a = some (.tup xs) → DatVs H xs ds → DatV H (.ref a) (.tuple ds)
  | lst {a : Addr} {xs : List V} {ds : List PySem.W.Dat} : H a = some (.lst xs) → DatVs H xs ds → DatV H (.ref a) (.list ds)
inductive DatVs (H : Hp) : List V → List PySem.W.Dat → Prop
  | nil : DatVs H [] []
  | cons {x : V} {d : PySem.W.Dat} {xs : List V} {ds : List PySem.W.Dat} : DatV H x d → DatVs H xs ds → DatVs H (x :: xs) (d :: ds)
end
section
variable {X : Cx} {pins : List (Addr × Obj)} {σ : St} {H : Hp} {s : Shared}
mutual
theorem reads_datV (I : Inv X pins σ H s) : ∀ {x : V} {d : PySem.W.Dat} {u : Value}, DatV H x d → RelV x u → ∃ as, Reads s.heap u (PySem.W.kqdP d) as
  | _, _, u, .non, r => by cases (show u = Value.none from r); rw [PySem.W.kqdP]; exact ⟨_, .none⟩
  | _, _, u, .int i, r => by obtain ⟨t, e⟩ := (show ∃ t, u = Value.int i t from r); subst e; rw [PySem.W.kqdP]; exact ⟨_, .int i t⟩
  | _, _, u, .str x, r => by obtain ⟨t, e⟩ := (show ∃ t, u = Value.str x t from r); subst e; rw [PySem.W.kqdP]; exact ⟨_, .str x t⟩
  | _, _, u, .tup (a := a) e t, r => by
    cases (show u = Value.ref a from r)
    obtain ⟨_, its, rv, o, e1, e2, n, e3⟩ := (show ObjOk X.prog X.w H s.heap a (.tup _) from I.hok a _ e)
    obtain ⟨as, q⟩ := reads_datVs I t rv
    rw [PySem.W.kqdP]
    exact ⟨as, reads_tuple_at e1 e2 e3 (by simpa using q)⟩
  | _, _, u, .lst (a := a) e t, r => by
    cases (show u = Value.ref a from r)
    obtain ⟨_, its, n, rv, e1⟩ := (show ObjOk X.prog X.w H s.heap a (.lst _) from I.hok a _ e)
    obtain ⟨as, q⟩ := reads_datVs I t rv
    rw [PySem.W.kqdP]
    exact ⟨_, reads_list_at e1 rfl rfl (by simpa using q)⟩
theorem reads_datVs (I : Inv X pins σ H s) : ∀ {xs : List V} {ds : List PySem.W.Dat} {us : List Value}, DatVs H xs ds → Vals xs us → ∃ as, ReadsAll s.heap us (PySem.W.kqdPs ds) as
  | _, _, _, .nil, .nil => by rw [PySem.W.kqdPs]; exact ⟨_, .nil⟩
  | _, _, _, .cons d t, .cons r rt => by
    obtain ⟨as, q⟩ := reads_datV I d r
    obtain ⟨bs, p⟩ := reads_datVs I t rt
    rw [PySem.W.kqdPs]
    exact ⟨_, .cons q p⟩
end
end
section
variable {X : Cx}
def rEqDat (neg : Bool) : R2 := fun x y H Q => ∃ d e, DatV H x d ∧ DatV H y e ∧ PySem.W.kqdOk 9 d = true ∧ PySem.W.kqdOk 9 e = true ∧ ∃ k : Bool, (k = true ↔ d = e) ∧ Q (.bl (if neg then !k else k)) H
theorem shaped_dat {d : PySem.W.Dat} (h : PySem.W.kqdOk 9 d = true) : SeqAt.shaped (PySem.W.kqdP d) = true := by
  have la := PySem.W.kqd_lay 9 d h
  unfold SeqAt.shaped
  rw [la.1, Bool.true_and]
  exact decide_eq_true (Nat.le_trans la.2 (by decide))
theorem eqv_dat {d e : PySem.W.Dat} (h1 : PySem.W.kqdOk 9 d = true) (h2 : PySem.W.kqdOk 9 e = true) {k : Bool} (hk : k = true ↔ d = e) : PyData.eqv (PySem.W.kqdP d) (PySem.W.kqdP e) = k := by
  have q := PySem.W.kqd_eqv 9 d e 9 h1 h2
  cases k with
  | true => exact q.mpr (hk.mp rfl)
  | false => exact Bool.eq_false_iff.mpr fun x => by have := hk.mpr (q.mp x); cases this
theorem op_eqDat (hu : X.A.units + 64 < cLine) : OpR X (compareOp .Eq) (rEqDat false) := by
  intro pins s σ H x y v u Q I r1 r2 h
  obtain ⟨d, e, hd, he, kd, ke, k, hk, q⟩ := h
  obtain ⟨as, ra⟩ := reads_datV I hd r1
  obtain ⟨bs, rb⟩ := reads_datV I he r2
  refine eq_dataH ra rb (shaped_dat kd) (shaped_dat ke) hu ?_
  rw [eqv_dat kd ke hk]
  exact ⟨.bl k, H, I, rfl, q⟩
theorem op_neDat (hu : X.A.units + 64 < cLine) : OpR X (compareOp .NotEq) (rEqDat true) := by
  intro pins s σ H x y v u Q I r1 r2 h
  obtain ⟨d, e, hd, he, kd, ke, k, hk, q⟩ := h
  obtain ⟨as, ra⟩ := reads_datV I hd r1
  obtain ⟨bs, rb⟩ := reads_datV I he r2
  refine ne_dataH ra rb (shaped_dat kd) (shaped_dat ke) hu ?_
  rw [eqv_dat kd ke hk]
  exact ⟨.bl (!k), H, I, rfl, q⟩
end
theorem datV_mark {H : Hp} : ∀ {x : V}, MarkV x → DatV H x (datM x)
  | .non, _ => .non
  | .int i, _ => .int i
theorem datM_ok (n : Nat) : ∀ {x : V}, MarkV x → PySem.W.kqdOk n (datM x) = true
  | .non, _ => by cases n <;> rfl
  | .int i, _ => by cases n <;> rfl
end L2
namespace L2
open PySem PySem.Spec PyProof.Rows
theorem comp_list {K : PySem.W.Frag} {a D : Addr} {xs : List V} {σ : St} {sub : List Nat} {tt : TT} {te : TE} {Q : VK} {H : Hp} (Pv : Nat → List V → Hp → Prop) (h0 : Pv 0 [] (upd H D (.lst []))) (hl : ∀ i ys H, i ≤ xs.length → Pv i ys H → SqL K H a xs)
    (hs : ∀ i x ys H, xs[i]? = some x → Pv i ys H → tt (some x :: subσ sub σ) H fun b H4 => if b = true then te (some x :: subσ sub σ) H4 fun y H5 => H5 D = some (.lst ys) ∧ ys.length < sizeLine ∧ Pv (i + 1) (ys ++ [y]) (upd H5 D (.lst (ys ++ [y]))) else Pv (i + 1) ys H4)
    (hd : ∀ ys H, Pv xs.length ys H → Q (.ref D) H) :
    ∃ W : Nat → Nat → List V → Hp → Prop, (∃ m, W 0 m [] (upd H D (.lst []))) ∧ ∀ i m ys H2, W i m ys H2 →
      ((Itl K a).stop i H2 ∧ Q (.ref D) H2) ∨ ((Itl K a).go i H2 ∧ ∃ N : List V → Hp → Prop, (∀ ys' H', N ys' H' → ∃ m', m' < m ∧ W (i + 1) m' ys' H') ∧ ∀ v H3, (Itl K a).yld i H2 v H3 → tt (some v :: subσ sub σ) H3 fun b H4 => if b = true then
        te (some v :: subσ sub σ) H4 fun y H5 => H5 D = some (.lst ys) ∧ ys.length < sizeLine ∧ N (ys ++ [y]) (upd H5 D (.lst (ys ++ [y])))
        else N ys H4) := by
  refine ⟨fun i m ys H => m = xs.length - i ∧ i ≤ xs.length ∧ Pv i ys H, ⟨xs.length, rfl, Nat.zero_le _, h0⟩, ?_⟩
  rintro i m ys H ⟨rfl, hi, p⟩
  have q := hl i ys H hi p
  by_cases hlt : i < xs.length
  · refine .inr ⟨⟨xs, xs[i], q, by simp [hlt]⟩, Pv (i + 1), fun ys' H' p' => ⟨xs.length - (i + 1), by omega, rfl, hlt, p'⟩, fun x H' y => ?_⟩
    obtain ⟨e, y⟩ := y
    subst e
    exact hs i x ys _ (y xs q) p
  · have e : i = xs.length := by omega
    subst e
    exact .inl ⟨⟨xs, q, Nat.le_refl _⟩, hd ys H p⟩
end L2
namespace L2
open PySem PySem.Spec PyProof.Rows
end L2
namespace L2
open PySem PySem.Spec PyProof.Rows
section
variable {X : Cx}
theorem sl_str : SlR X (fun x lo hi H Q => ∃ z, x = .str z ∧ z.length ≤ sizeLine ∧ Q (.str (Txt.slice z lo hi)) H) := by
  intro pins s σ H x v vl vu lo hi sl Q I rx hs pl pu h
  obtain ⟨z, rfl, hz, q⟩ := h
  obtain ⟨t, rfl⟩ := rx
  refine ⟨"str", _, slot_str_getitem.lookup, typeIs_str s z t, ?_⟩
  have fin : ∀ l u : Option (Int × Tok), vl = partValue l → vu = partValue u → l.map (·.1) = lo → u.map (·.1) = hi →
      wpAny (model X.prog X.w) X.A (getItem (.str z t) (.ref sl)) (EP X pins σ Q) X.xe s := fun l u e1 e2 e3 e4 => by
    subst e1 e2 e3 e4
    refine wpAny_getItem_str_slice (l := l) (u := u) (st := none) hs rfl ?_
    have q2 : ∀ t', EP X pins σ Q (.str (Txt.slice z (l.map (·.1)) (u.map (·.1))) t') s := fun t' => ⟨.str _, H, I, ⟨t', rfl⟩, q⟩
    unfold sliceMade
    unfold Txt.slice at q2
    unfold Txt.slice at q
    by_cases c : ((((none : Option (Int × Tok)).map (·.1)).getD 1 : Int) == 1 && (slicePicked z l u none).length == z.length) = true
    · rw [if_pos c]
      rw [if_pos (show ((1 : Int) == 1 && (Builtin.Str.strSliceIndices (l.map (·.1)) (u.map (·.1)) 1 z.length).length == z.length) = true from c)] at q2
      exact q2 t
    · rw [if_neg c]
      rw [if_neg (show ¬ ((1 : Int) == 1 && (Builtin.Str.strSliceIndices (l.map (·.1)) (u.map (·.1)) 1 z.length).length == z.length) = true from c)] at q
      refine ⟨?_, ⟨.str _, H, I.tok _, ⟨_, rfl⟩, q⟩⟩
      have hle := Txt.slice_le z (l.map (·.1)) (u.map (·.1))
      unfold Txt.slice at hle
      rw [if_neg (show ¬ ((1 : Int) == 1 && (Builtin.Str.strSliceIndices (l.map (·.1)) (u.map (·.1)) 1 z.length).length == z.length) = true from c)] at hle
      exact Nat.le_trans hle hz
  cases pl with
  | none => cases pu with
    | none => exact fin none none rfl rfl rfl rfl
    | int j tj => exact fin none (some (j, tj)) rfl rfl rfl rfl
  | int i ti => cases pu with
    | none => exact fin (some (i, ti)) none rfl rfl rfl rfl
    | int j tj => exact fin (some (i, ti)) (some (j, tj)) rfl rfl rfl rfl
def Its (x : Str) : It := ⟨fun i _ => i < x.cps.size, fun i H v H' => H' = H ∧ ∃ c, x.cps[i]? = some c ∧ v = .str ⟨#[c]⟩, fun i _ => x.cps.size ≤ i⟩
theorem turn_ascii {P : Program} {w : World} {K : PySem.W.Frag} {tg : Expr} (x : Str) (t : Tok) (it : Addr) : Turn P w K tg (Its x) [it] it (fun i h => h.IsStrIter it "str_ascii_iterator" x t i) where
  mem := by simp
  obj := fun i h st b hb => by
    have e : b = it := by simpa using hb
    subst e
    obtain ⟨o, e, c, d⟩ := st
    exact ⟨o, e, fun v z => by rw [d] at z; cases z⟩
  keep := fun i h h' st k => let ⟨o, ho, r⟩ := st; ⟨o, k it (by simp) o ho, r⟩
  item := by
    intro X hP hw hK hc i pins s σ H E I hf st hg
    subst hP hw hK
    have hg : i < x.cps.size := hg
    obtain ⟨f0, f1, f2, f3, f4, f5⟩ := hf it (by simp)
    refine wpAny_pyNext_ascii_item st (c := x.cps[i]) (by simp [hg]) fun h' st' sb => ?_
    have I1 : Inv X pins σ H { s with heap := h', toks := s.toks + 1 } := I.turned (fun b o hb e => (sb.2 b hb).trans e) f0 f1 f3 f4 f5
    obtain ⟨o, e, c, d⟩ := id st'
    exact ⟨_, rfl, go_of (s := { s with heap := h', toks := s.toks + 1 }) e c d (by decide) ⟨.str ⟨#[x.cps[i]]⟩, H, I1, ⟨_, rfl⟩, ⟨rfl, _, by simp [hg], rfl⟩, st', fun b hb => (hf b hb).1⟩⟩
  done := by
    intro X hP hw hK hc i pins s σ H E I hf st hg
    subst hP hw hK
    have hg : x.cps.size ≤ i := hg
    obtain ⟨f0, f1, f2, f3, f4, f5⟩ := hf it (by simp)
    exact wpAny_pyNext_ascii_end (I.ok.hd hc) st (by simp; omega) fun h' eb => ⟨rfl, I.turned (t' := s.toks) (fun b o hb e => eb b o hb e) f0 f1 f3 f4 f5⟩
  self := fun _ _ _ _ _ st h => wpAny_pyIter_striter_ascii st h
theorem turn_wide {P : Program} {w : World} {K : PySem.W.Frag} {tg : Expr} (x : Str) (t : Tok) (it : Addr) : Turn P w K tg (Its x) [it] it (fun i h => h.IsStrIter it "str_iterator" x t i) where
  mem := by simp
  obj := fun i h st b hb => by
    have e : b = it := by simpa using hb
    subst e
    obtain ⟨o, e, c, d⟩ := st
    exact ⟨o, e, fun v z => by rw [d] at z; cases z⟩
  keep := fun i h h' st k => let ⟨o, ho, r⟩ := st; ⟨o, k it (by simp) o ho, r⟩
  item := by
    intro X hP hw hK hc i pins s σ H E I hf st hg
    subst hP hw hK
    have hg : i < x.cps.size := hg
    obtain ⟨f0, f1, f2, f3, f4, f5⟩ := hf it (by simp)
    refine wpAny_pyNext_wide_item st (c := x.cps[i]) (by simp [hg]) fun h' st' sb => ?_
    have I1 : Inv X pins σ H { s with heap := h', toks := s.toks + 1 } := I.turned (fun b o hb e => (sb.2 b hb).trans e) f0 f1 f3 f4 f5
    obtain ⟨o, e, c, d⟩ := id st'
    exact ⟨_, rfl, go_of (s := { s with heap := h', toks := s.toks + 1 }) e c d (by decide) ⟨.str ⟨#[x.cps[i]]⟩, H, I1, ⟨_, rfl⟩, ⟨rfl, _, by simp [hg], rfl⟩, st', fun b hb => (hf b hb).1⟩⟩
  done := by
    intro X hP hw hK hc i pins s σ H E I hf st hg
    subst hP hw hK
    have hg : x.cps.size ≤ i := hg
    obtain ⟨f0, f1, f2, f3, f4, f5⟩ := hf it (by simp)
    exact wpAny_pyNext_wide_end (I.ok.hd hc) st (by simp; omega) fun h' eb => ⟨rfl, I.turned (t' := s.toks) (fun b o hb e => eb b o hb e) f0 f1 f3 f4 f5⟩
  self := fun _ _ _ _ _ st h => wpAny_pyIter_striter_wide st h
def iStr (tl : TE) : TI := fun σ H R => tl σ H fun v H1 => ∃ x, v = .str x ∧ R (Its x) H1
theorem pi_str {tg l : Expr} {tl : TE} (hl : PE X l tl) : PI X tg l (iStr tl) := by
  intro pins s σ H R I h
  refine thn (hl pins s σ H _ I h) fun v s1 ⟨y, H1, I1, r1, q1⟩ => ?_
  obtain ⟨x, e, q⟩ := q1
  subst e
  obtain ⟨t, rfl⟩ := r1
  have fp : ∀ b ∈ [s1.heap.objs.size], FpOk X pins H1 b := fun b hb => by
    have e : b = s1.heap.objs.size := by simpa using hb
    subst e
    exact I1.fpOk (Nat.le_refl _) (I1.hok.fresh (Nat.le_refl _))
  cases ha : x.cps.all (· < 128)
  · refine wpAny_pyIter_wide ha ?_
    exact ⟨s1.heap.objs.size, [s1.heap.objs.size], _, _, H1, rfl, I1.kept (t' := s1.toks) fun b o e => Heap.get?_push_of_some _ e, turn_wide x t _, ⟨_, Heap.get?_push_size _ rfl, rfl, rfl⟩, fp, q⟩
  · refine wpAny_pyIter_ascii ha ?_
    exact ⟨s1.heap.objs.size, [s1.heap.objs.size], _, _, H1, rfl, I1.kept (t' := s1.toks) fun b o e => Heap.get?_push_of_some _ e, turn_ascii x t _, ⟨_, Heap.get?_push_size _ rfl, rfl, rfl⟩, fp, q⟩
theorem comp_str {x : Str} {D : Addr} {σ : St} {sub : List Nat} {tt : TT} {te : TE} {Q : VK} {H : Hp} (Pv : Nat → List V → Hp → Prop) (h0 : Pv 0 [] (upd H D (.lst [])))
    (hs : ∀ i c ys H, x.cps[i]? = some c → Pv i ys H → tt (some (.str ⟨#[c]⟩) :: subσ sub σ) H fun b H4 => if b = true then te (some (.str ⟨#[c]⟩) :: subσ sub σ) H4 fun y H5 => H5 D = some (.lst ys) ∧ ys.length < sizeLine ∧ Pv (i + 1) (ys ++ [y]) (upd H5 D (.lst (ys ++ [y]))) else Pv (i + 1) ys H4)
    (hd : ∀ ys H, Pv x.cps.size ys H → Q (.ref D) H) :
    ∃ W : Nat → Nat → List V → Hp → Prop, (∃ m, W 0 m [] (upd H D (.lst []))) ∧ ∀ i m ys H2, W i m ys H2 →
      ((Its x).stop i H2 ∧ Q (.ref D) H2) ∨ ((Its x).go i H2 ∧ ∃ N : List V → Hp → Prop, (∀ ys' H', N ys' H' → ∃ m', m' < m ∧ W (i + 1) m' ys' H') ∧ ∀ v H3, (Its x).yld i H2 v H3 → tt (some v :: subσ sub σ) H3 fun b H4 => if b = true then
        te (some v :: subσ sub σ) H4 fun y H5 => H5 D = some (.lst ys) ∧ ys.length < sizeLine ∧ N (ys ++ [y]) (upd H5 D (.lst (ys ++ [y])))
        else N ys H4) := by
  refine ⟨fun i m ys H => m = x.cps.size - i ∧ i ≤ x.cps.size ∧ Pv i ys H, ⟨_, rfl, Nat.zero_le _, h0⟩, ?_⟩
  rintro i m ys H ⟨rfl, hi, p⟩
  by_cases hlt : i < x.cps.size
  · refine .inr ⟨hlt, Pv (i + 1), fun ys' H' p' => ⟨_, by omega, rfl, hlt, p'⟩, fun v H' y => ?_⟩
    obtain ⟨rfl, c, ec, rfl⟩ := y
    exact hs i c ys _ ec p
  · have e : i = x.cps.size := by omega
    subst e
    exact .inl ⟨Nat.le_refl _, hd ys H p⟩
end
end L2
namespace L2
open PySem PySem.Spec PyProof.Rows
section
variable {X : Cx}
theorem call_allB (hc : X.calm = true) : CallR X (.builtin "all") (fun xs H Q => ∃ (a : Addr) (bs : List Bool), xs = [.ref a] ∧ SqL X.K H a (bs.map V.bl) ∧ Q (.bl (bs.all id)) H) := by
  intro pins s σ H xs us Q I r h
  obtain ⟨a, bs, rfl, hS, q⟩ := h
  obtain ⟨u, rfl, ru⟩ := vals1 r
  cases (show u = Value.ref a from ru)
  obtain ⟨its, rv, p, hz⟩ := I.list hS
  have hlen := rv.length
  rw [List.length_map] at hlen
  have hne : a ≠ s.heap.objs.size := fun z => by
    obtain ⟨o, e, _⟩ := p.isList
    exact Nat.lt_irrefl _ (z ▸ Heap.lt_size e)
  obtain ⟨f0, f1, f2, f3, f4, f5⟩ := I.fpOk (Nat.le_refl _) (I.hok.fresh (Nat.le_refl _))
  refine call_all_walk (wpAny_pyIter_list p.isList ?_)
  have I1 := fun o => I.kept (h' := s.heap.push o) (t' := s.toks) fun b ob e => Heap.get?_push_of_some _ e
  refine ⟨s.heap.objs.size, _, _, _, _, _, fun i => bs.getD i false, rfl, Walks.list (A := X.A.in1) (I.ok.hd hc) _ a hne its.toArray, ⟨⟨_, Heap.get?_push_size _ rfl, rfl, rfl⟩, p.isList.at fun o e => Heap.get?_push_of_some _ e⟩, ?_, fun h' tk hk => ?_⟩
  · intro i v s' Q' E' hv hQ
    have hv : its[i]? = some v := by simpa using hv
    have hi : i < bs.length := by rw [hlen]; exact (List.getElem?_eq_some_iff.mp hv).1
    obtain ⟨u', hu, ru'⟩ := rv.get (i := i) (x := V.bl bs[i]) (by rw [List.getElem?_map, List.getElem?_eq_getElem hi]; rfl)
    rw [hv] at hu
    cases hu
    cases (show v = Value.bool bs[i] from ru')
    have e : bs.getD i false = bs[i] := by rw [List.getD_eq_getElem?_getD, List.getElem?_eq_getElem hi]; rfl
    have hQ : Q' (bs.getD i false) s' := hQ
    rw [e] at hQ
    exact wpAny_truthy_bool hQ
  · refine ⟨.bl _, H, (I1 _).turned (t' := tk) (fun b o hb e => hk b o (by simpa using hb) e) f0 f1 f3 f4 f5, rfl, ?_⟩
    have e : (List.range its.toArray.size).all (fun i => bs.getD i false) = bs.all id := by
      rw [List.size_toArray, ← hlen]
      rw [Bool.eq_iff_iff, List.all_eq_true, List.all_eq_true]
      constructor
      · intro h b hb
        obtain ⟨i, hi, rfl⟩ := List.getElem_of_mem hb
        have := h i (List.mem_range.mpr hi)
        rw [List.getD_eq_getElem?_getD, List.getElem?_eq_getElem hi] at this
        exact this
      · intro h i hi
        have hi := List.mem_range.mp hi
        rw [List.getD_eq_getElem?_getD, List.getElem?_eq_getElem hi]
        exact h _ (List.getElem_mem hi)
    rw [e]
    exact q
theorem lookup_at {α : Type} : ∀ {l : List (Str × α)} {z : Str} {k : α}, l.lookup z = some k → ∃ p ∈ l, z = p.1 ∧ p.2 = k
  | [], _, _, e => by cases e
  | (n, k') :: r, z, k, e => by
    rw [List.lookup_cons] at e
    split at e
    · rename_i h
      cases e
      exact ⟨(n, k'), List.mem_cons_self, eq_of_beq h, rfl⟩
    · obtain ⟨p, hp, q⟩ := lookup_at e
      exact ⟨p, List.mem_cons_of_mem _ hp, q⟩
theorem pe_comp1 {elt iter : Expr} {x y : Str} {c : Addr} {i : Nat} {px pos : Pos} {ifs : List Expr} {scope : Scope} {wi : TI} {tt : TT} {te : TE}
    (hc : X.calm = true) (hi : PI X (.Name x px) iter wi) (hclos : closureFor scope X.env = pure [(y, c)]) (hkind : scope.kind = .function)
    (hall : ∀ p ∈ scope.names, p.2 = .local ∨ (p.1 = y ∧ p.2 = .free)) (hnames : ∀ p ∈ scope.names, p.2 = .local → scope.names.lookup p.1 = some .local) (hx : scope.names.lookup x = some .local)
    (hxy : x ≠ y) (hN : X.N[i]? = some y) (hv : Vis X.env.scope y) (hk : X.env.kindOf y ≠ some .local)
    (hvis : (compEnvC scope [(y, c)] 0 X.env).kindOf y = some .cell ∨ (compEnvC scope [(y, c)] 0 X.env).kindOf y = some .free) (hcy : X.env.cells.lookup y = some c)
    (ht : ∀ C fp s H, PTs (compX X scope [(y, c)] [x, y] C fp s H) ifs tt) (he : ∀ C fp s H, PE (compX X scope [(y, c)] [x, y] C fp s H) elt te)
    (hs : ∀ x, foldedSetIterable iter X.env x = pure x := by intro _; rfl) : PE X (.ListComp elt [⟨.Name x px, iter, ifs, 0⟩] scope pos) (tComp wi [i] tt te) := by
  have one : ∀ {z c'}, [(y, c)].lookup z = some c' → z = y ∧ c' = c := fun {z c'} e => by
    obtain ⟨p, hp, e1, e2⟩ := lookup_at e
    cases List.mem_singleton.mp hp
    exact ⟨e1, e2.symm⟩
  have self : [(y, c)].lookup y = some c := by rw [List.lookup_cons]; simp
  refine pe_of ?_
  refine pec_comp (cl := [(y, c)]) (fv := [y]) hc hi hclos (fun p hp z => ?_) hkind hnames hx ?_ rfl (fun j k z e1 e2 => ?_) (fun z hz => ?_) (fun z c' e => ?_) (fun z hz => ?_) (fun z hz => ?_) ht he hs
  · rcases hall p hp with q | ⟨_, q⟩ <;> rw [q] at z <;> cases z
  · exact List.nodup_cons.mpr ⟨fun h => hxy (List.mem_singleton.mp h), List.nodup_cons.mpr ⟨(fun h => nomatch h), List.nodup_nil⟩⟩
  · cases j with
    | zero => cases e1; cases e2; exact ⟨hN, hv, hk⟩
    | succ j => cases e1
  · cases List.mem_singleton.mp hz
    exact hvis
  · obtain ⟨rfl, rfl⟩ := one e
    exact hcy
  · cases List.mem_singleton.mp hz
    rw [self, hcy]
  · have far : ∀ k, (k = .cell ∨ k = .free) → (compEnvC scope [(y, c)] 0 X.env).kindOf z = some k → ∃ c', [(y, c)].lookup z = some c' := fun k hkk e => by
      obtain ⟨p, hp, e1, e2⟩ := lookup_at (show (scope.names.map _).lookup z = some k from e)
      obtain ⟨⟨n, kk⟩, hq, rfl⟩ := List.mem_map.mp hp
      rcases hall _ hq with q | ⟨q, _⟩
      · have q : kk = .local := q
        subst q
        have e2 : NameKind.local = k := e2
        rcases hkk with r | r <;> rw [r] at e2 <;> cases e2
      · have q : n = y := q
        subst q
        refine ⟨c, ?_⟩
        have : z = n := by
          rw [e1]
          dsimp only
          split <;> rfl
        rw [this]
        exact self
    rcases hz with e | e
    · exact far _ (.inl rfl) e
    · exact far _ (.inr rfl) e
end
end L2
namespace L2
open PySem PySem.Spec PyProof.Rows
end L2
namespace L2
open PySem PySem.Spec PyProof.Rows
def gSlice (to tl th : TE) : TG := fun v σ H Q => to σ H fun o H1 => tl σ H1 fun a H2 => th σ H2 fun c H3 => ∃ (l b : Addr) (xs ys : List V) (i j : Int), o = .ref l ∧ v = .ref b ∧ a = .int i ∧ c = .int j ∧ H3 l = some (.lst xs) ∧ H3 b = some (.lst ys) ∧ l ≠ b ∧
  0 ≤ i ∧ i ≤ j ∧ j ≤ xs.length ∧ xs.length + ys.length ≤ sizeLine ∧ Q σ (upd H3 l (.lst (xs.take i.toNat ++ ys ++ xs.drop j.toNat)))
theorem pg_slice {X : Cx} {o lo hi : Expr} {to tl th : TE} {pos p2 : Pos} (ho : PE X o to) (hl : PE X lo tl) (hh : PE X hi th)
    (ha : ∀ v, assign (.Subscript o (.Slice (some lo) (some hi) none p2) pos) X.env v = (do
      let ov ← holding [v] (eval o X.env)
      let iv ← holding [v, ov] (eval (.Slice (some lo) (some hi) none p2) X.env)
      standAt pos
      holding [v, ov, iv] (setItem ov iv v)
      release [iv, v, ov] []) := by intro _; rfl) : PG X (.Subscript o (.Slice (some lo) (some hi) none p2) pos) (gSlice to tl th) := by
  intro pins s σ H v u Q I r h
  rw [ha]
  refine wpAny_bind (wpAny_holding (thn (ho pins s σ H _ I h) fun ov s1 ⟨x, H1, I1, r1, q1⟩ => ?_))
  refine wpAny_bind (wpAny_holding (wpAny_Slice ?_))
  rw [evalPart_some]
  refine thn (hl pins s1 σ H1 _ I1 q1) fun vl s2 ⟨a, H2, I2, r2, q2⟩ => ?_
  rw [evalPart_some]
  refine thn (hh pins s2 σ H2 _ I2 q2) fun vu s3 ⟨c, H3, I3, r3, q3⟩ => ?_
  rw [evalPart_none]
  refine wpAny_pure ?_
  obtain ⟨l, b, xs, ys, i, j, rfl, rfl, rfl, rfl, hl1, hb1, ne, h0, hij, hj, hz, q⟩ := q3
  cases r1
  cases r
  have I4 : Inv X pins σ H3 { s3 with heap := s3.heap.push { cls := .type "slice", data := .fields #[vl, vu, .none] } } := I3.kept (t' := s3.toks) fun b ob q => Heap.get?_push_of_some _ q
  refine wpAny_bind (wpAny_standAt (wpAny_bind (wpAny_holding ?_)))
  refine set_slice I4 hl1 hb1 ne (Heap.IsSliceOf.new ..) r2 r3 h0 hij hj hz fun s4 I5 => ?_
  exact wpAny_release ⟨σ, _, I5, q⟩
end L2
namespace Strip
section
variable {M : Type} [DecidableEq M]
def holeG (rs : List (Row M)) (f l : Int) : Int → Option M := fun n => if f ≤ n ∧ n ≤ l then none else dayOf rs n
theorem hole_start {f l : Int} : DG ([] : List (Row M)) (holeG [] f l) := DG.nil.eq fun n => by unfold holeG; split <;> rfl
def midH (rs : List (Row M)) (f l : Int) (r : Row M) : Int → Option M := fun n => if Has r n ∧ n < f then some r.2.2 else holeG rs f l n
theorem hole_left {rs cs : List (Row M)} {f l : Int} {i : Nat} {r : Row M} (d : Disj rs) (e : rs[i]? = some r) (h : r.1 < f) {b : Int} (hb : b = if f - 1 < r.2.1 then f - 1 else r.2.1) (D : DG cs (holeG (rs.take i) f l)) :
    DG (cs ++ [(r.1, b, r.2.2)]) (midH (rs.take i) f l r) ∧ b ≤ r.2.1 := by
  have hr := d.le r (List.mem_of_getElem? e)
  have b1 : b ≤ f - 1 ∧ b ≤ r.2.1 ∧ (b = f - 1 ∨ b = r.2.1) := by rw [hb]; split <;> omega
  refine ⟨(D.put (c := (r.1, b, r.2.2)) (by show r.1 ≤ b; omega) fun n hn => ?_).eq fun n => ?_, b1.2.1⟩
  · unfold Has at hn
    dsimp only at hn
    unfold holeG
    rw [if_neg (by omega)]
    exact d.ahead e ⟨by omega, by omega⟩
  · unfold midH
    by_cases y : Has r n ∧ n < f
    · rw [if_pos y, if_pos]
      unfold Has at y ⊢
      dsimp only
      omega
    · rw [if_neg y, if_neg]
      unfold Has at y ⊢
      dsimp only
      omega
theorem hole_noLeft {rs cs : List (Row M)} {f l : Int} {i : Nat} {r : Row M} (h : ¬ r.1 < f) (D : DG cs (holeG (rs.take i) f l)) : DG cs (midH (rs.take i) f l r) := D.eq fun n => by
  unfold midH
  rw [if_neg]
  unfold Has
  omega
theorem hole_right {rs cs : List (Row M)} {f l : Int} {i : Nat} {r : Row M} (d : Disj rs) (e : rs[i]? = some r) (hfl : f ≤ l) (h : l < r.2.1) {a : Int} (ha : a = if l + 1 > r.1 then l + 1 else r.1) (D : DG cs (midH (rs.take i) f l r)) :
    DG (cs ++ [(a, r.2.1, r.2.2)]) (holeG (rs.take (i + 1)) f l) ∧ r.1 ≤ a := by
  have hr := d.le r (List.mem_of_getElem? e)
  have a1 : l + 1 ≤ a ∧ r.1 ≤ a ∧ (a = l + 1 ∨ a = r.1) := by rw [ha]; split <;> omega
  refine ⟨(D.put (c := (a, r.2.1, r.2.2)) (by show a ≤ r.2.1; omega) fun n hn => ?_).eq fun n => ?_, a1.2.1⟩
  · unfold Has at hn
    dsimp only at hn
    unfold midH
    rw [if_neg (by omega)]
    unfold holeG
    rw [if_neg (by omega)]
    exact d.ahead e ⟨by omega, by omega⟩
  · unfold midH holeG
    rw [take_snoc e, dayOf_snoc]
    by_cases z : f ≤ n ∧ n ≤ l
    · rw [if_neg (by unfold Has; dsimp only; omega), if_neg (by omega), if_pos z, if_pos z]
    · rw [if_neg z, if_neg z]
      by_cases y : Has r n
      · rw [if_pos y]
        by_cases x : n < f
        · rw [if_neg (by unfold Has; dsimp only; omega), if_pos ⟨y, x⟩]
        · rw [if_pos (by unfold Has at y ⊢; dsimp only; omega)]
      · rw [if_neg y, if_neg (by unfold Has at y ⊢; dsimp only; omega), if_neg (fun q => y q.1)]
theorem hole_noRight {rs cs : List (Row M)} {f l : Int} {i : Nat} {r : Row M} (e : rs[i]? = some r) (h : ¬ l < r.2.1) (D : DG cs (midH (rs.take i) f l r)) : DG cs (holeG (rs.take (i + 1)) f l) := D.eq fun n => by
  unfold midH holeG
  rw [take_snoc e, dayOf_snoc]
  by_cases z : f ≤ n ∧ n ≤ l
  · rw [if_neg (by omega), if_pos z, if_pos z]
  · rw [if_neg z, if_neg z]
    by_cases y : Has r n
    · rw [if_pos y, if_pos]
      refine ⟨y, ?_⟩
      unfold Has at y
      omega
    · rw [if_neg y, if_neg (fun q => y q.1)]
theorem hole_laid {m : M} {rs cs : List (Row M)} {f l : Int} (hfl : f ≤ l) (D : DG cs (holeG rs f l)) : DG (cs ++ [(f, l, m)]) (laidG m rs f l) := (D.put (c := (f, l, m)) hfl fun n hn => if_pos hn).eq fun n => by
  unfold holeG laidG
  by_cases z : f ≤ n ∧ n ≤ l
  · rw [if_pos (show Has (f, l, m) n from z), if_pos z]
  · rw [if_neg (show ¬ Has (f, l, m) n from z), if_neg z, if_neg z]
end
end Strip
namespace L2
open PySem PySem.Spec PyProof.Rows
def Nm (x : Str) : Prop := x.cps.all (· < 0x110000) = true
end L2
namespace Strip
open L2 PySem
def dayL (g : Int → V) : List V := (List.range 400).map fun i : Nat => g (i : Int)
theorem dayL_len (g : Int → V) : (dayL g).length = 400 := by unfold dayL; rw [List.length_map, List.length_range]
theorem dayL_get (g : Int → V) {i : Nat} (h : i < 400) : (dayL g)[i]? = some (g (i : Int)) := by
  unfold dayL
  rw [List.getElem?_map, List.getElem?_range h]
  rfl
theorem dayL_put (g : Int → V) {f l : Int} (h0 : 0 ≤ f) (h1 : f ≤ l) (h2 : l < 400) (m : V) :
    (dayL g).take f.toNat ++ (List.replicate (l + 1 - f).toNat [m]).flatten ++ (dayL g).drop (l + 1).toNat = dayL fun n => if f ≤ n ∧ n ≤ l then m else g n := by
  obtain ⟨a, rfl⟩ := Int.eq_ofNat_of_zero_le h0
  obtain ⟨b, rfl⟩ := Int.eq_ofNat_of_zero_le (Int.le_trans h0 h1)
  have e1 : ((b : Int) + 1 - (a : Int)).toNat = b + 1 - a := by omega
  have e2 : ((b : Int) + 1).toNat = b + 1 := by omega
  have ef : ∀ k : Nat, (List.replicate k [m]).flatten = List.replicate k m := fun k => by
    induction k with
    | zero => rfl
    | succ k ih => rw [List.replicate_succ, List.flatten_cons, ih]; rfl
  have la : ((dayL g).take a).length = a := by rw [List.length_take, dayL_len]; omega
  rw [e1, e2, ef, Int.toNat_natCast]
  apply List.ext_getElem?
  intro i
  by_cases hi : i < 400
  · rw [dayL_get _ hi]
    by_cases c1 : i < a
    · rw [List.append_assoc, List.getElem?_append_left (by rw [la]; exact c1), List.getElem?_take, if_pos c1, dayL_get _ hi, if_neg (by omega)]
    · by_cases c2 : i ≤ b
      · rw [List.append_assoc, List.getElem?_append_right (by rw [la]; omega), la, List.getElem?_append_left (by rw [List.length_replicate]; omega), List.getElem?_replicate, if_pos (by omega), if_pos (by omega)]
      · rw [List.append_assoc, List.getElem?_append_right (by rw [la]; omega), la, List.getElem?_append_right (by rw [List.length_replicate]; omega), List.length_replicate, List.getElem?_drop, if_neg (by omega),
          show b + 1 + (i - a - (b + 1 - a)) = i by omega, dayL_get _ hi]
  · rw [List.getElem?_eq_none, List.getElem?_eq_none]
    · rw [dayL_len]; omega
    · rw [List.length_append, List.length_append, la, List.length_replicate, List.length_drop, dayL_len]; omega
end Strip
namespace L2
open PySem PySem.Spec PyProof.Rows
inductive Caps (X : Cx) (scope : Scope) (cl0 : List (Str × Addr)) : List (Str × Addr) → List Nat → Prop
  | nil : Caps X scope cl0 [] []
  | cons {y : Str} {c : Addr} {i : Nat} {cl : List (Str × Addr)} {sub : List Nat} (hN : X.N[i]? = some y) (hv : Vis X.env.scope y) (hk : X.env.kindOf y ≠ some .local)
      (hvis : (compEnvC scope cl0 0 X.env).kindOf y = some .cell ∨ (compEnvC scope cl0 0 X.env).kindOf y = some .free) (hc : X.env.cells.lookup y = some c) (t : Caps X scope cl0 cl sub) : Caps X scope cl0 ((y, c) :: cl) (i :: sub)
section
variable {X : Cx} {scope : Scope} {cl0 : List (Str × Addr)}
theorem Caps.len : ∀ {cl : List (Str × Addr)} {sub : List Nat}, Caps X scope cl0 cl sub → sub.length = (cl.map (·.1)).length
  | _, _, .nil => rfl
  | _, _, .cons _ _ _ _ _ t => congrArg (· + 1) t.len
theorem Caps.at : ∀ {cl : List (Str × Addr)} {sub : List Nat}, Caps X scope cl0 cl sub → ∀ (j i : Nat) (y : Str), sub[j]? = some i → (cl.map (·.1))[j]? = some y → X.N[i]? = some y ∧ Vis X.env.scope y ∧ X.env.kindOf y ≠ some .local
  | _, _, .nil, _, _, _, e, _ => by simp at e
  | _, _, .cons hN hv hk _ _ t, j, i, y, e1, e2 => by
    cases j with
    | zero =>
      simp at e1 e2
      subst e1 e2
      exact ⟨hN, hv, hk⟩
    | succ j => exact t.at j i y (by simpa using e1) (by simpa using e2)
theorem Caps.vis : ∀ {cl : List (Str × Addr)} {sub : List Nat}, Caps X scope cl0 cl sub → ∀ y ∈ cl.map (·.1), (compEnvC scope cl0 0 X.env).kindOf y = some .cell ∨ (compEnvC scope cl0 0 X.env).kindOf y = some .free
  | _, _, .nil, _, h => by simp at h
  | _, _, .cons _ _ _ hvis _ t, y, h => by
    rcases List.mem_cons.mp h with e | h
    · rw [e]; exact hvis
    · exact t.vis y h
theorem Caps.cell : ∀ {cl : List (Str × Addr)} {sub : List Nat}, Caps X scope cl0 cl sub → ∀ y c, cl.lookup y = some c → X.env.cells.lookup y = some c
  | _, _, .nil, _, _, h => by cases h
  | _, _, .cons (y := z) (c := d) _ _ _ _ hc t, y, c, h => by
    rw [List.lookup_cons] at h
    split at h
    · rename_i e
      cases h
      rw [eq_of_beq e]
      exact hc
    · exact t.cell y c h
theorem lookup_has {α : Type} : ∀ {l : List (Str × α)} {y : Str}, y ∈ l.map (·.1) → ∃ c, l.lookup y = some c
  | [], _, h => by simp at h
  | (n, k) :: r, y, h => by
    rw [List.lookup_cons]
    split
    · exact ⟨k, rfl⟩
    · rename_i e
      rcases List.mem_cons.mp h with z | z
      · rw [z] at e
        simp at e
      · exact lookup_has z
def CapN (ys : List Str) (p : Str × NameKind) : Prop := p.2 = .local ∨ p.2 = .globalImplicit ∨ (p.1 ∈ ys ∧ p.2 = .free)
instance (ys : List Str) (p : Str × NameKind) : Decidable (CapN ys p) := by unfold CapN; exact inferInstance
theorem pec_compN {elt iter : Expr} {x : Str} {cl : List (Str × Addr)} {sub : List Nat} {px pos : Pos} {ifs : List Expr} {wi : TI} {tt : TT} {te : TE}
    (hc : X.calm = true) (hi : PI X (.Name x px) iter wi) (hclos : closureFor scope X.env = pure cl) (hkind : scope.kind = .function)
    (hall : ∀ p ∈ scope.names, CapN (cl.map (·.1)) p) (hnames : ∀ p ∈ scope.names, p.2 = .local → scope.names.lookup p.1 = some .local) (hx : scope.names.lookup x = some .local)
    (hnd : (x :: cl.map (·.1)).Nodup) (caps : Caps X scope cl cl sub)
    (ht : ∀ C fp s H, PTs (compX X scope cl (x :: cl.map (·.1)) C fp s H) ifs tt) (he : ∀ C fp s H, PE (compX X scope cl (x :: cl.map (·.1)) C fp s H) elt te)
    (hs : ∀ x, foldedSetIterable iter X.env x = pure x := by intro _; rfl) : PEC X (.ListComp elt [⟨.Name x px, iter, ifs, 0⟩] scope pos) iter scope (tComp wi sub tt te) := by
  refine pec_comp (cl := cl) (fv := cl.map (·.1)) hc hi hclos (fun p hp z => ?_) hkind hnames hx hnd caps.len caps.at caps.vis caps.cell (fun y hy => ?_) (fun z hz => ?_) ht he hs
  · rcases hall p hp with q | q | ⟨_, q⟩ <;> rw [q] at z <;> cases z
  · obtain ⟨c, e⟩ := lookup_has hy
    rw [e, caps.cell y c e]
  · have far : ∀ k, (k = .cell ∨ k = .free) → (compEnvC scope cl 0 X.env).kindOf z = some k → ∃ c', cl.lookup z = some c' := fun k hkk e => by
      obtain ⟨p, hp, e1, e2⟩ := lookup_at (show (scope.names.map _).lookup z = some k from e)
      obtain ⟨⟨n, kk⟩, hq, rfl⟩ := List.mem_map.mp hp
      rcases hall _ hq with q | q | ⟨q, _⟩
      · have q : kk = .local := q
        subst q
        have e2 : NameKind.local = k := e2
        rcases hkk with r | r <;> rw [r] at e2 <;> cases e2
      · have q : kk = .globalImplicit := q
        subst q
        have e2 : NameKind.globalImplicit = k := e2
        rcases hkk with r | r <;> rw [r] at e2 <;> cases e2
      · have q : n ∈ cl.map (·.1) := q
        have : z = n := by
          rw [e1]
          dsimp only
          split <;> rfl
        rw [this]
        exact lookup_has q
    rcases hz with e | e
    · exact far _ (.inl rfl) e
    · exact far _ (.inr rfl) e
end
theorem comp_range {lo : Int} {n : Nat} {D : Addr} {σ : St} {sub : List Nat} {tt : TT} {te : TE} {Q : VK} {H : Hp} (Pv : Nat → List V → Hp → Prop) (h0 : Pv 0 [] (upd H D (.lst [])))
    (hs : ∀ i ys H2, i < n → Pv i ys H2 → tt (some (.int (lo + i)) :: subσ sub σ) H2 fun b H4 => if b = true then te (some (.int (lo + i)) :: subσ sub σ) H4 fun y H5 => H5 D = some (.lst ys) ∧ ys.length < sizeLine ∧ Pv (i + 1) (ys ++ [y]) (upd H5 D (.lst (ys ++ [y]))) else Pv (i + 1) ys H4)
    (hd : ∀ ys H2, Pv n ys H2 → Q (.ref D) H2) :
    ∃ W : Nat → Nat → List V → Hp → Prop, (∃ m, W 0 m [] (upd H D (.lst []))) ∧ ∀ i m ys H2, W i m ys H2 →
      ((Itr lo n).stop i H2 ∧ Q (.ref D) H2) ∨ ((Itr lo n).go i H2 ∧ ∃ N : List V → Hp → Prop, (∀ ys' H', N ys' H' → ∃ m', m' < m ∧ W (i + 1) m' ys' H') ∧ ∀ v H3, (Itr lo n).yld i H2 v H3 → tt (some v :: subσ sub σ) H3 fun b H4 => if b = true then
        te (some v :: subσ sub σ) H4 fun y H5 => H5 D = some (.lst ys) ∧ ys.length < sizeLine ∧ N (ys ++ [y]) (upd H5 D (.lst (ys ++ [y]))) else N ys H4) := by
  refine ⟨fun i m ys H2 => m = n - i ∧ i ≤ n ∧ Pv i ys H2, ⟨n, by simp, Nat.zero_le _, h0⟩, ?_⟩
  rintro i m ys H2 ⟨rfl, hi, p⟩
  by_cases hlt : i < n
  · refine .inr ⟨hlt, Pv (i + 1), fun ys' H' p' => ⟨n - (i + 1), by omega, rfl, hlt, p'⟩, fun v H3 y => ?_⟩
    obtain ⟨e, e2⟩ := y
    subst e e2
    exact hs i ys _ hlt p
  · have e : i = n := by omega
    subst e
    exact .inl ⟨Nat.le_refl _, hd ys H2 p⟩
end L2
namespace L2
open PySem PySem.Spec PyProof.Rows
theorem Inv.turnedL {X : Cx} {pins : List (Addr × Obj)} {σ : St} {H : Hp} {s : Shared} {h' : Heap} {t' : Nat} {ch : List Addr} (I : Inv X pins σ H s) (k : ∀ b o, b ∉ ch → s.heap.get? b = some o → h'.get? b = some o) (hf : ∀ b ∈ ch, FpOk X pins H b) : Inv X pins σ H { s with heap := h', toks := t' } := by
  have nit : ∀ b u, H b = some u → b ∉ ch := fun b u e z => by rw [(hf b z).1] at e; cases e
  refine I.step (g' := s.gens) (d' := s.drawn) (ch := ch) (fun b hb => ?_) (fun b o _ _ hc e _ => k b o hc e) (fun b o _ _ hc e _ => ⟨o.slots, k b o hc e⟩) (fun _ _ _ _ n => n)
    (fun b o hc e => ⟨o, k b o hc e⟩) (fun _ _ e => e) (fun _ _ _ e => e) (fun b ps e => ⟨#[], by rw [e]; simp⟩) (fun m hm => ?_) (fun b u e => ?_) I.bare
  · obtain ⟨f0, f1, f2, f3, f4, f5⟩ := hf b hb
    exact ⟨f3, f1, f4, f5⟩
  · obtain ⟨o, es, ep, ho, r⟩ := hm
    exact ⟨o, es, ep, k _ o (fun z => (hf _ z).2.1 rfl) ho, r⟩
  · refine (I.hok b u e).stay (fun c v hc q => k c v ?_ q) (fun _ q => q) fun _ _ q => q
    rcases hc with z | z
    · rw [z]; exact nit b u e
    · exact nit c _ z
def Ite (K : PySem.W.Frag) (a : Addr) : It :=
  ⟨fun i H => ∃ xs x, SqL K H a xs ∧ xs[i]? = some x, fun i H v H' => ∃ (t : Addr) (x : V), v = .ref t ∧ H t = none ∧ H' = upd H t (.tup [.int (i : Int), x]) ∧ ∀ xs, SqL K H a xs → xs[i]? = some x, fun i H => ∃ xs, SqL K H a xs ∧ xs.length ≤ i⟩
theorem turn_enum {P : Program} {w : World} {K : PySem.W.Frag} {elts : List Expr} {kk : Nat} {pos : Pos} (a e it : Addr) (hne : e ≠ it) : Turn P w K (.Tuple elts kk pos) (Ite K a) [e, it] e (fun i h => (∃ old, IsEnum h e it (i : Int) old) ∧ h.IsListIter it a i) where
  mem := by simp
  obj := fun i h st b hb => by
    obtain ⟨⟨old, he⟩, o, ho, c, d⟩ := st
    rcases List.mem_cons.mp hb with z | z
    · subst z
      exact ⟨_, he, fun v z => by
        have z' : Data.fields _ = Data.cell v := z
        cases z'⟩
    · rcases List.mem_cons.mp z with z | z
      · subst z
        exact ⟨o, ho, fun v z => by rw [d] at z; cases z⟩
      · cases z
  keep := fun i h h' st k => ⟨let ⟨old, he⟩ := st.1; ⟨old, k e (by simp) _ he⟩, st.2.at fun o q => k it (by simp) o q⟩
  item := by
    intro X hP hw hK hc i pins s σ H E I hf st hg
    subst hP hw hK
    obtain ⟨⟨old, he⟩, hit⟩ := st
    obtain ⟨xs, x, hq, hx⟩ := hg
    obtain ⟨its, rv, p, hz⟩ := I.list hq
    obtain ⟨u, hu, ru⟩ := rv.get hx
    refine wpAny_pyNext_enum_item he hit p.isList (x := u) (by simpa using hu) hne fun h1 heo hit1 ht1 hz1 hk1 => ?_
    refine ⟨_, rfl, wpAny_letOwnedTupleGo_enum heo fun h2 he2 hs2 => ?_⟩
    have hs2 : Heap.SameBut e h1 h2 := hs2
    have el : e < s.heap.objs.size := Heap.lt_size he
    have ht2 : h2.get? s.heap.objs.size = some { cls := .type "tuple", data := .seq #[.int i s.toks, u] } := (hs2.2 _ (Nat.ne_of_gt el)).trans ht1
    have nt : H s.heap.objs.size = none := I.hok.fresh (Nat.le_refl _)
    have I1 : Inv X pins σ (upd H s.heap.objs.size (.tup [.int (i : Int), x])) { s with heap := s.heap.push { cls := .type "tuple", data := .seq #[.int i s.toks, u] }, toks := s.toks + 1 } :=
      I.laid (a := s.heap.objs.size) (o := .tup [.int (i : Int), x]) (fun _ _ q => Heap.get?_push_of_some _ q) (Nat.le_refl _) ⟨by show 2 ≤ sizeLine; decide, [.int i s.toks, u], .cons ⟨_, rfl⟩ (.cons ru .nil), _, Heap.get?_push_size _ rfl, rfl, 0, rfl⟩
    have fp1 : ∀ b ∈ [e, it], FpOk X pins (upd H s.heap.objs.size (.tup [.int (i : Int), x])) b := fun b hb => by
      obtain ⟨f0, f1, f2, f3, f4, f5⟩ := hf b hb
      refine ⟨?_, f1, f2, f3, f4, f5⟩
      have hb2 : b < s.heap.objs.size := by
        rcases List.mem_cons.mp hb with z | z
        · rw [z]; exact el
        · rcases List.mem_cons.mp z with z | z
          · rw [z]
            obtain ⟨o, ho, _⟩ := hit
            exact Heap.lt_size ho
          · cases z
      rw [upd_ne (Nat.ne_of_lt hb2)]
      exact f0
    have I2 : Inv X pins σ (upd H s.heap.objs.size (.tup [.int (i : Int), x])) { s with heap := h2, toks := s.toks + 1 } := I1.turnedL (h' := h2) (t' := s.toks + 1) (fun b o hb ho => by
      have b1 : b ≠ e := fun z => hb (by rw [z]; simp)
      have b2 : b ≠ it := fun z => hb (by rw [z]; simp)
      by_cases bs : b = s.heap.objs.size
      · rw [bs] at ho ⊢
        have ho : (s.heap.push { cls := .type "tuple", data := .seq #[.int i s.toks, u] }).get? s.heap.objs.size = some o := ho
        rw [Heap.get?_push_size _ rfl] at ho
        cases ho
        exact ht2
      · have ho2 : s.heap.get? b = some o := (Heap.get?_push_ne _ b _ bs).symm.trans ho
        exact (hs2.2 b b1).trans (hk1 b o b1 b2 ho2)) fp1
    refine ⟨.ref s.heap.objs.size, _, I2, rfl, ⟨s.heap.objs.size, x, rfl, nt, rfl, fun ys hy => by rw [I.list_inj hy hq]; exact hx⟩, ⟨⟨u, ?_⟩, hit1.extBut hs2.extBut (Ne.symm hne)⟩, fun b hb => (fp1 b hb).1⟩
    have : ((i + 1 : Nat) : Int) = (i : Int) + 1 := by omega
    rw [this]
    exact he2
  done := by
    intro X hP hw hK hc i pins s σ H E I hf st hg
    subst hP hw hK
    obtain ⟨⟨old, he⟩, hit⟩ := st
    obtain ⟨xs, hq, hx⟩ := hg
    obtain ⟨its, rv, p, hz⟩ := I.list hq
    obtain ⟨f0, f1, f2, f3, f4, f5⟩ := hf it (by simp)
    have hl := rv.length
    exact wpAny_pyNext_enum_end (I.ok.hd hc) he hit p.isList (by simp; omega) fun h' eb => ⟨rfl, I.turned (t' := s.toks) (fun b o hb q => eb b o hb q) f0 f1 f3 f4 f5⟩
  self := fun _ _ _ _ _ st h => let ⟨old, he⟩ := st.1; wpAny_pyIter_enum he h
def iEnum (K : PySem.W.Frag) (ta : TA) : TI := fun σ H R => ta σ H fun vs H1 => ∃ a, vs = [.ref a] ∧ (∃ xs, SqL K H1 a xs) ∧ R (Ite K a) H1
theorem pi_enum {X : Cx} {elts : List Expr} {kk : Nat} {pt : Pos} {a : Expr} {ta : TA} {p pos : Pos} (hg : Gl X "enumerate") (hm : X.mg "enumerate" = none) (ha : PA X [a] ta) (hs : starEach [a] X.env = [(false, eval a X.env)] := by rfl) :
    PI X (.Tuple elts kk pt) (.Call (.Name "enumerate" p) [a] [] pos) (iEnum X.K ta) := by
  intro pins s σ H R I h
  refine Call_ (ld_blt I hg hm (PyProof.Rows.Boot.«enumerate») (PyProof.Rows.callWith_type1 (thn (ha pos pins s σ H _ I h) fun us s1 ⟨vs, H1, I1, r1, q1⟩ => ?_) hs rfl))
  obtain ⟨b, e, ⟨xs, hq⟩, q⟩ := q1
  subst e
  cases r1 with
  | cons r rr =>
    cases rr
    cases r
    obtain ⟨its, rv, pp, hz⟩ := I1.list hq
    refine call_enumerate_list pp.isList fun h' hE hI hsz hk => ?_
    refine wpAny_pyIter_enum hE ?_
    refine ⟨s1.heap.objs.size + 1, [s1.heap.objs.size + 1, s1.heap.objs.size], _, _, H1, rfl, I1.kept (t' := s1.toks) hk, turn_enum b _ _ (Nat.succ_ne_self _), ⟨⟨_, hE⟩, hI⟩, fun c hc => ?_, q⟩
    rcases List.mem_cons.mp hc with z | z
    · subst z
      exact I1.fpOk (Nat.le_succ _) (I1.hok.fresh (Nat.le_succ _))
    · rcases List.mem_cons.mp z with z | z
      · subst z
        exact I1.fpOk (Nat.le_refl _) (I1.hok.fresh (Nat.le_refl _))
      · cases z
theorem for_enum {K : PySem.W.Frag} {a : Addr} {xs : List V} {g : TG} {tb : TS} {D : Ends} {σ : St} {H : Hp} (Pv : Nat → St → Hp → Prop) (h0 : Pv 0 σ H) (hl : ∀ i σ H, i ≤ xs.length → Pv i σ H → SqL K H a xs)
    (hs : ∀ i x σ H t, xs[i]? = some x → Pv i σ H → H t = none → g (.ref t) σ (upd H t (.tup [.int (i : Int), x])) fun σ2 H2 => tb { D with nx := Pv (i + 1), ct := Pv (i + 1), bk := D.nx } σ2 H2) (hd : ∀ σ H, Pv xs.length σ H → D.nx σ H) :
    ∃ W : Nat → Nat → St → Hp → Prop, (∃ m, W 0 m σ H) ∧ ∀ i m σ H, W i m σ H →
      ((Ite K a).stop i H ∧ D.nx σ H) ∨ ((Ite K a).go i H ∧ ∃ N : St → Hp → Prop, (∀ σ' H', N σ' H' → ∃ m', m' < m ∧ W (i + 1) m' σ' H') ∧ ∀ x H', (Ite K a).yld i H x H' → g x σ H' fun σ2 H2 => tb { D with nx := N, ct := N, bk := D.nx } σ2 H2) := by
  refine ⟨fun i m σ H => m = xs.length - i ∧ i ≤ xs.length ∧ Pv i σ H, ⟨xs.length, by simp, Nat.zero_le _, h0⟩, ?_⟩
  rintro i m σ H ⟨rfl, hi, p⟩
  have q := hl i σ H hi p
  by_cases hlt : i < xs.length
  · refine .inr ⟨⟨xs, xs[i], q, by simp [hlt]⟩, Pv (i + 1), fun σ' H' p' => ⟨xs.length - (i + 1), by omega, rfl, hlt, p'⟩, fun x H' y => ?_⟩
    obtain ⟨t, y1, e1, nt, e2, y⟩ := y
    subst e1 e2
    exact hs i y1 σ _ t (y xs q) p nt
  · have e : i = xs.length := by omega
    subst e
    exact .inl ⟨⟨xs, q, Nat.le_refl _⟩, hd σ H p⟩
theorem strs_of : ∀ {zs : List Str} {us : List Value}, Vals (zs.map V.str) us → StrsAre us zs
  | [], _, r => by cases r; exact .nil
  | z :: zs, _, r => by
    rw [List.map_cons] at r
    cases r with
    | cons a t =>
      obtain ⟨tk, rfl⟩ := a
      exact .cons z tk (strs_of t)
theorem mt_join {X : Cx} : MtR X "str.join" (fun x xs H Q => ∃ i l zs, x = .str i ∧ xs = [.ref l] ∧ H l = some (.lst (zs.map V.str)) ∧ (zs.map (·.length)).sum + zs.length * i.length ≤ 16777216 ∧ Q (.str (Txt.join i zs)) H) := by
  intro pins s σ H x xs v us Q I rx rv h
  obtain ⟨i, l, zs, rfl, rfl, hl, hz, q⟩ := h
  obtain ⟨t, rfl⟩ := rx
  obtain ⟨u, rfl, ru⟩ := Vals.one rv
  cases ru
  obtain ⟨_, its, n, r, _, e⟩ := I.lstM hl
  exact join_list (items := its.toArray) ⟨_, e, rfl, n, rfl⟩ (by simpa using strs_of r) hz fun t' k => ⟨.str _, H, I.tok _, ⟨_, rfl⟩, q⟩
theorem call_dict_of {X : Cx} : CallR X (.type "dict") (fun xs H Q => ∃ d kvs, xs = [.ref d] ∧ H d = some (.dK kvs) ∧ ∀ p, H p = none → Q (.ref p) (upd H p (.dK kvs))) := by
  intro pins s σ H xs us Q I r h
  obtain ⟨d, kvs, rfl, hd, q⟩ := h
  obtain ⟨u, rfl, ru⟩ := Vals.one r
  cases ru
  obtain ⟨z, hds, vs, rk, dd⟩ := dk_of I.hok hd
  have hb : sysModules < s.heap.objs.size := I.big
  refine kt_call_dict (knd := mixKind X.prog X.w) hds dd (by rw [← Paired.length rk]; exact z) fun h' dd' sb => ?_
  refine ⟨.ref s.heap.objs.size, _, I.laid (t' := s.toks) (h' := h') (fun b u e => (sb.2 b (Nat.ne_of_lt (Heap.lt_size e))).trans (Heap.get?_push_of_some _ e)) (Nat.le_refl _) (dk_new z (beq_eq_false_iff_ne.mpr (Ne.symm (Nat.ne_of_lt hb))) rk dd'), rfl, q _ (I.hok.fresh (Nat.le_refl _))⟩
end L2
namespace L2
open PySem PySem.Spec PyProof.Rows
section
variable {prog : Program} {w : World} {A : Around} {R : Result → Shared → Prop} {s : Shared}
abbrev compE (prog : Program) (w : World) (A : Around) (env : Env) (R : Result → Shared → Prop) : Value → Shared → Prop := notedBy (model prog w) A env fun x s' => R (.error x) s'
theorem comp_turns {elt tg iter : Expr} {ifs : List Expr} {scope : Scope} {pos : Pos} {it acc : Value} {env : Env} (J : Nat → Shared → Prop)
    (go : ∀ n s, J n s → wpAny (model prog w) A (pyNext it) (fun r s1 => match r with
      | none => R (.ok .next) s1
      | some v => wpAny (model prog w) A (letOwnedTupleGo tg it v) (fun _ s1' => wpAny (model prog w) A (assign tg env v) (fun _ s2 =>
          wpAny (model prog w) A (forIn ifs true fun c r => if r = true then do let ok ← isTrue c env (eval c env); pure (ForInStep.yield ok) else pure (ForInStep.yield r)) (fun b s3 =>
            if b = true then wpAny (model prog w) A (eval elt env) (fun x s4 => wpAny (model prog w) A (call (.builtin "list.append") [acc, x]) (fun _ s5 => ∃ m, m < n ∧ J m s5) (compE prog w A env R) s4) (compE prog w A env R) s3
            else ∃ m, m < n ∧ J m s3) (compE prog w A env R) s2) (compE prog w A env R) s1') (compE prog w A env R) s1) (compE prog w A env R) s)
    (n : Nat) (h0 : J n s) : codeAny (model prog w) A (.compLoop (.ListComp elt [⟨tg, iter, ifs, 0⟩] scope pos) 0 it acc env) R s := by
  refine codeAny_loop rfl J (fun n s hI => ?_) n h0
  have e : ((compTurn (.ListComp elt [⟨tg, iter, ifs, 0⟩] scope pos) 0 it acc env).onRaise fun x => do noteFrame x env; theTreesLotGoes x) = ((compTurn (.ListComp elt [⟨tg, iter, ifs, 0⟩] scope pos) 0 it acc env).onRaise fun x => do noteFrame x env; theTreesLotGoes x) := rfl
  show wpAny _ A ((compTurn (.ListComp elt [⟨tg, iter, ifs, 0⟩] scope pos) 0 it acc env).onRaise fun x => do noteFrame x env; theTreesLotGoes x) _ _ s
  apply wpAny_noted
  rw [compTurn_list]
  refine wpAny_bind (wpAny_standAt (wpAny_bind (thn (go n s hI) fun r s1 h1 => ?_)))
  cases r with
  | none => exact wpAny_pure h1
  | some v =>
    refine wpAny_bind (thn h1 fun _ s1' h1' => wpAny_bind (thn h1' fun _ s2 h2 => wpAny_bind (thn h2 fun b s3 h3 => ?_)))
    cases b with
    | false => exact wpAny_pure ⟨rfl, h3⟩
    | true => exact wpAny_bind (wpAny_bind (thn h3 fun x s4 h4 => wpAny_bind (thn h4 fun _ s5 h5 => wpAny_pure (wpAny_pure ⟨rfl, h5⟩))))
end
def tComp2 (K : PySem.W.Frag) (wi : TI) (sub : List Nat) (tt : TT) (te : TE) : TE := fun σ H Q => wi σ H fun J H1 => ∀ D, H1 D = none → ∃ W : Nat → Nat → List V → Hp → Prop, (∃ m, W 0 m [] (upd H1 D (.lst []))) ∧ ∀ i m ys H2, W i m ys H2 →
  (J.stop i H2 ∧ Q (.ref D) H2) ∨ (J.go i H2 ∧ ∃ N : List V → Hp → Prop, (∀ ys' H', N ys' H' → ∃ m', m' < m ∧ W (i + 1) m' ys' H') ∧ ∀ v H3, J.yld i H2 v H3 → ∃ (t : Addr) (a b : V), v = .ref t ∧ SqT K H3 t [a, b] ∧ tt (some a :: some b :: subσ sub σ) H3 fun c H4 => if c = true then
    te (some a :: some b :: subσ sub σ) H4 fun y H5 => H5 D = some (.lst ys) ∧ ys.length < sizeLine ∧ N (ys ++ [y]) (upd H5 D (.lst (ys ++ [y])))
    else N ys H4)
section
variable {X : Cx}
theorem pec_comp2 {elt iter : Expr} {x x2 : Str} {px py pt pos : Pos} {kk : Nat} {ifs : List Expr} {scope : Scope} {cl : List (Str × Addr)} {sub : List Nat} {fv : List Str} {wi : TI} {tt : TT} {te : TE}
    (hc : X.calm = true) (hi : PI X (.Tuple [.Name x px, .Name x2 py] kk pt) iter wi) (hclos : closureFor scope X.env = pure cl)
    (hcell : ∀ y ∈ scope.names, y.2 ≠ .cell) (hkind : scope.kind = .function) (hnames : ∀ y ∈ scope.names, y.2 = .local → scope.names.lookup y.1 = some .local) (hx : scope.names.lookup x = some .local) (hx2 : scope.names.lookup x2 = some .local)
    (hnd : (x :: x2 :: fv).Nodup) (hl : sub.length = fv.length) (hsub : ∀ (j : Nat) (i : Nat) (y : Str), sub[j]? = some i → fv[j]? = some y → X.N[i]? = some y ∧ Vis X.env.scope y ∧ X.env.kindOf y ≠ some .local)
    (hvis : ∀ y ∈ fv, (compEnvC scope cl 0 X.env).kindOf y = some .cell ∨ (compEnvC scope cl 0 X.env).kindOf y = some .free)
    (hcl : ∀ y c, cl.lookup y = some c → X.env.cells.lookup y = some c) (hcl2 : ∀ y ∈ fv, cl.lookup y = X.env.cells.lookup y)
    (hhas : ∀ y, ((compEnvC scope cl 0 X.env).kindOf y = some .cell ∨ (compEnvC scope cl 0 X.env).kindOf y = some .free) → ∃ c, cl.lookup y = some c)
    (ht : ∀ C fp s H, PTs (compX X scope cl (x :: x2 :: fv) C fp s H) ifs tt) (he : ∀ C fp s H, PE (compX X scope cl (x :: x2 :: fv) C fp s H) elt te)
    (hs : ∀ x, foldedSetIterable iter X.env x = pure x := by intro _; rfl) : PEC X (.ListComp elt [⟨.Tuple [.Name x px, .Name x2 py] kk pt, iter, ifs, 0⟩] scope pos) iter scope (tComp2 X.K wi sub tt te) := by
  intro upos pins s σ H Q use QV I h hend
  refine wpAny_comprehension_free (use := use) rfl hs hclos hkind hnames ?_
  refine thn (hi pins s σ H _ I h) fun v s1 h1 => thn h1 fun itv s2 h2 => ?_
  obtain ⟨it, fp, tn, J, H2, e, I2, T, st2, f2, h⟩ := h2
  subst e
  refine wpAny_newList ?_ (Nat.zero_le _)
  have nD : H2 s2.heap.objs.size = none := I2.hok.fresh (Nat.le_refl _)
  obtain ⟨W, ⟨m0, w0⟩, turn⟩ := h s2.heap.objs.size nD
  have I3 := I2.lnew (ys := []) (its := []) (t' := s2.toks) .nil (Nat.zero_le _)
  generalize hs3 : ({ s2 with heap := s2.heap.push { cls := .type "list", data := .seq ([] : List Value).toArray }, toks := s2.toks } : Shared) = s3 at I3
  have hDlt : s2.heap.objs.size < s3.heap.objs.size := by rw [← hs3]; show _ < (s2.heap.push _).objs.size; rw [Heap.size_push]; exact Nat.lt_succ_self _
  have old3 : ∀ b o, s2.heap.get? b = some o → s3.heap.get? b = some o := fun b o e => by rw [← hs3]; exact Heap.get?_push_of_some _ e
  generalize hD : s2.heap.objs.size = D at *
  refine wpAny_newFunctionEnv hcell (by intro y hy; simp at hy) (fun h₁ hns hsb => ?_) hkind
  generalize hC : s3.heap.objs.size = C at *
  have kept : ∀ b o, s3.heap.get? b = some o → h₁.get? b = some o := fun b o e => (hsb.2 b (by rw [← hC]; exact Nat.ne_of_lt (Heap.lt_size e))).trans (Heap.get?_push_of_some _ e)
  have nC : upd H2 D (.lst []) C = none := I3.hok.fresh (Nat.le_of_eq hC)
  have fC : FpOk X pins (upd H2 D (.lst [])) C := I3.fpOk (Nat.le_of_eq hC) nC
  have fp3 : ∀ b ∈ fp, b < s2.heap.objs.size := fun b hb => by obtain ⟨o, e, _⟩ := T.obj _ _ st2 b hb; exact Heap.lt_size e
  have fpC : ∀ b ∈ fp, b ≠ C := fun b hb => by rw [← hC]; exact Nat.ne_of_lt (Nat.lt_of_lt_of_le (fp3 b hb) (by rw [hD]; exact Nat.le_of_lt (hC ▸ hDlt)))
  have fpD : ∀ b ∈ fp, b ≠ D := fun b hb => by rw [← hD]; exact Nat.ne_of_lt (fp3 b hb)
  have ok' : (compX X scope cl (x :: x2 :: fv) C fp s3 (upd H2 D (.lst []))).Ok := by
    refine ⟨I.ok.mod, hkind, I.ok.glob, I.ok.blt, Nat.le_of_eq hC, fun y z c e1 e2 => I.ok.inj y z c (hcl y c e1) (hcl z c e2), fun y hy => hhas y hy, (fun y c e _ => by cases e), fun _ => I.ok.hd hc, I.ok.frames, .inl rfl, fun b hb => ⟨fpC b hb, fun y c e => (f2 b hb).2.2.2.2.1 y c (hcl y c e)⟩, I3.bs, Nat.le_trans I.ok.bsz I3.sz,
      fun b o e hb => ?_, fun b hb hf => ?_, I3.stack, I3.stkFree⟩
    · rcases (f2 b hb).2.2.2.1 with z | z
      · exact I.ok.noex b o e z
      · exact absurd (Nat.lt_of_lt_of_le (Heap.lt_size e) (Nat.le_trans I.ok.bsz z)) (Nat.lt_irrefl _)
    · rcases List.mem_cons.mp (I3.stkSub b hf) with z | z
      · exact (f2 b hb).2.1 z
      · exact (f2 b hb).2.2.1 z
  have lenσ : ∀ v0 w0 : Option V, (v0 :: w0 :: subσ sub σ).length = (x :: x2 :: fv).length := fun v0 w0 => by
    show (subσ sub σ).length + 1 + 1 = fv.length + 1 + 1
    unfold subσ
    rw [List.length_map, hl]
  have I4 : ∀ t', Inv (compX X scope cl (x :: x2 :: fv) C fp s3 (upd H2 D (.lst []))) [] (none :: none :: subσ sub σ) (upd H2 D (.lst [])) { s3 with heap := h₁, toks := t' } := fun t' => by
    refine ⟨ok', rfl, I3.bare, Un.kept kept, ⟨_, hns, fun i y v e1 e2 e3 => ?_⟩, fun y c e => ?_, nC, fun y c e => I3.freeC y c (hcl y c e), (fun p hp => by cases hp), I3.hok.kept kept, lenσ none none⟩
    · match i, e1, e2 with
      | 0, _, e2 => cases e2
      | 1, _, e2 => cases e2
      | j + 2, e1, e2 =>
        have e1 : (x :: x2 :: fv)[j + 2]? = some y := e1
        have e1 : fv[j]? = some y := by simpa using e1
        have e2 : (subσ sub σ)[j]? = some (some v) := by simpa using e2
        unfold subσ at e2
        rw [List.getElem?_map] at e2
        cases ei : sub[j]? with
        | none => rw [ei] at e2; cases e2
        | some i =>
          rw [ei] at e2
          have e2 : (σ[i]?).join = some v := Option.some.inj e2
          obtain ⟨n1, n2, n3⟩ := hsub j i y ei e1
          have e4 : σ[i]? = some (some v) := by
            cases q : σ[i]? with
            | none => rw [q] at e2; cases e2
            | some w' => rw [q] at e2; cases w' with
              | none => cases e2
              | some v' => cases e2; rfl
          obtain ⟨m, hn, hl'⟩ := I3.loc
          obtain ⟨u, ru, lu⟩ := hl' i y v n1 e4 n2
          refine ⟨u, ru, ?_⟩
          rcases lu with ⟨k1, _⟩ | ⟨k1, c, ec, ic⟩
          · exact absurd k1 n3
          · have hy := List.mem_of_getElem? e1
            exact .inr ⟨hvis y hy, c, (hcl2 y hy).trans ec, ic.keeps kept⟩
    · obtain ⟨v, z⟩ := I3.cell y c (hcl y c e)
      exact ⟨v, z.keeps kept⟩
  have back : ∀ {σ' : St} {H' : Hp} {s' : Shared}, Inv (compX X scope cl (x :: x2 :: fv) C fp s3 (upd H2 D (.lst []))) [] σ' H' s' → Q (.ref D) H' →
      compPost (model X.prog X.w) X.A X.xe use QV (.ref D) C (.ok .next) s' := fun {σ' H' s'} J' q => by
    obtain ⟨m, hm, _⟩ := id J'.loc
    have hos : s'.os = s3.os := J'.os
    have K1 : Inv X pins σ H' s' := I3.call' (ch := fp) hos J'.base J'.hok J'.bare fun b hb => ⟨(f2 b hb).2.2.2.1, (f2 b hb).2.1, (f2 b hb).2.2.2.2.1, (f2 b hb).2.2.2.2.2⟩
    exact hend D C H' s' K1 ⟨J'.free, fC.2⟩ ⟨m, hm⟩ q
  have stat : ∀ {H' : Hp}, (∀ b ∈ fp, H' b = none) → ∀ b ∈ fp, FpOk (compX X scope cl (x :: x2 :: fv) C fp s3 (upd H2 D (.lst []))) [] H' b := fun hn b hb =>
    ⟨hn b hb, fpC b hb, ok'.exfs b hb, .inl hb, (ok'.exf b hb).2, (fun p hp => by cases hp)⟩
  have hg : PG (compX X scope cl (x :: x2 :: fv) C fp s3 (upd H2 D (.lst []))) (.Tuple [.Name x px, .Name x2 py] kk pt) (gTup X.K 2 (gCons (gName 0) (gCons (gName 1) gNil))) :=
    pg_tup rfl (pgs_cons (pg_name (i := 0) hnd rfl (.inl (lookup_relabel_local hx)) (.inr (lookup_relabel_local hx))) (pgs_cons (pg_name (i := 1) hnd rfl (.inl (lookup_relabel_local hx2)) (.inr (lookup_relabel_local hx2))) pgs_nil))
  have loop : ∀ t', codeAny (model X.prog X.w) X.A (.compLoop (.ListComp elt [⟨.Tuple [.Name x px, .Name x2 py] kk pt, iter, ifs, 0⟩] scope pos) 0 (.ref it) (.ref D) (compEnvC scope cl C X.env)) (compPost (model X.prog X.w) X.A X.xe use QV (.ref D) C) { s3 with heap := h₁, toks := t' } := fun t' => by
    refine comp_turns (fun n s' => ∃ (i : Nat) (ys : List V) (H' : Hp) (v0 w0 : Option V), Inv (compX X scope cl (x :: x2 :: fv) C fp s3 (upd H2 D (.lst []))) [] (v0 :: w0 :: subσ sub σ) H' s' ∧ tn i s'.heap ∧ (∀ b ∈ fp, H' b = none) ∧ W i n ys H') ?_ m0
      ⟨0, [], _, none, none, I4 t', T.keep _ _ _ st2 (fun b hb o e => kept b o (old3 b o e)), fun b hb => by rw [upd_ne (fpD b hb)]; exact (f2 b hb).1, w0⟩
    rintro n s5 ⟨i, ys, H5, v0, w0, I5, st5, fr5, w5⟩
    rcases turn i n ys H5 w5 with ⟨stop, q⟩ | ⟨go, NN, hNN, step⟩
    · refine wpAny_mono (T.done (compX X scope cl (x :: x2 :: fv) C fp s3 (upd H2 D (.lst []))) rfl rfl rfl rfl i [] s5 _ H5 (fun _ _ => False) I5 (stat fr5) st5 stop) (fun r s6 hh => ?_) fun _ _ f => f.elim
      obtain ⟨hr, I6⟩ := hh
      subst hr
      exact back I6 q
    · refine wpAny_mono (T.item (compX X scope cl (x :: x2 :: fv) C fp s3 (upd H2 D (.lst []))) rfl rfl rfl rfl i [] s5 _ H5 (fun _ _ => False) I5 (stat fr5) st5 go) (fun r s6 hh => ?_) fun _ _ f => f.elim
      obtain ⟨u, hr, h6⟩ := hh
      subst hr
      refine wpAny_mono h6 (fun _ s7 hh => ?_) fun _ _ f => f.elim
      obtain ⟨v, H7, I7, r7, y7, st7, fr7⟩ := hh
      have I7' := I7.pinned (stat fr7) (T.obj _ _ st7)
      obtain ⟨tp, va, vb, ev, htp, step⟩ := step v H7 y7
      refine wpAny_mono (hg _ s7 _ H7 v u (fun σ' H' => σ' = some va :: some vb :: subσ sub σ ∧ H' = H7) I7' r7 ⟨tp, [va, vb], ev, htp, rfl, va, [vb], rfl, vb, [], rfl, rfl, rfl, rfl⟩) (fun _ s8 hh => ?_) fun _ _ f => f.elim
      obtain ⟨σ8, H8, I8, rfl, rfl⟩ := hh
      have again : ∀ {H9 : Hp} {s9 : Shared} {ys9 : List V} {m9 : Nat}, Inv (compX X scope cl (x :: x2 :: fv) C fp s3 (upd H2 D (.lst []))) ([] ++ pinsAt fp s7.heap) (some va :: some vb :: subσ sub σ) H9 s9 → m9 < n → W (i + 1) m9 ys9 H9 →
          ∃ m, m < n ∧ ∃ (i : Nat) (ys : List V) (H' : Hp) (v0 w0 : Option V), Inv (compX X scope cl (x :: x2 :: fv) C fp s3 (upd H2 D (.lst []))) [] (v0 :: w0 :: subσ sub σ) H' s9 ∧ tn i s9.heap ∧ (∀ b ∈ fp, H' b = none) ∧ W i m ys H' := fun {H9 s9 ys9 m9} I9 hm w9 => by
        refine ⟨m9, hm, i + 1, ys9, H9, _, _, I9.unpinned, T.keep _ _ _ st7 fun b hb o e => (I9.pin (b, o) (List.mem_append_right _ (List.mem_append_right _ (mem_pinsAt hb e)))).1, fun b hb => ?_, w9⟩
        obtain ⟨o, e, d⟩ := T.obj _ _ st7 b hb
        exact (I9.pin (b, o) (List.mem_append_right _ (List.mem_append_right _ (mem_pinsAt hb e)))).2.1
      refine wpAny_mono (ht C fp s3 _ _ s8 _ H8 _ I8 step) (fun ok s9 hh => ?_) fun _ _ f => f.elim
      obtain ⟨H9, I9, q9⟩ := hh
      cases ok with
      | false =>
        rw [if_neg Bool.false_ne_true] at q9 ⊢
        obtain ⟨m', hm, w'⟩ := hNN _ _ q9
        exact again I9 hm w'
      | true =>
        rw [if_pos rfl] at q9 ⊢
        refine wpAny_mono (he C fp s3 _ _ s9 _ H9 _ I9 q9) (fun xv sa hh => ?_) fun _ _ f => f.elim
        obtain ⟨y, Ha, Ia, ra, hDa, hsz, qa⟩ := hh
        obtain ⟨m', hm, w'⟩ := hNN _ _ qa
        refine wpAny_mono (mt_append (X := compX X scope cl (x :: x2 :: fv) C fp s3 (upd H2 D (.lst []))) _ sa _ Ha (.ref D) [y] (.ref D) [xv] (fun _ H' => H' = upd Ha D (.lst (ys ++ [y]))) Ia rfl (.cons ra .nil) ⟨D, ys, y, rfl, rfl, hDa, hsz, rfl⟩) (fun _ sb hh => ?_) fun _ _ f => f.elim
        obtain ⟨_, Hb, Ib, _, rfl⟩ := hh
        exact again Ib hm w'
  exact codeAny_compStart_list (loop _) (T.self X.A 0 _ _ _ (T.keep _ _ _ st2 (fun b hb o e => kept b o (old3 b o e))) (loop _))
variable {scope : Scope} {cl0 : List (Str × Addr)}
theorem pec_compN2 {elt iter : Expr} {x x2 : Str} {cl : List (Str × Addr)} {sub : List Nat} {px py pt pos : Pos} {kk : Nat} {ifs : List Expr} {wi : TI} {tt : TT} {te : TE}
    (hc : X.calm = true) (hi : PI X (.Tuple [.Name x px, .Name x2 py] kk pt) iter wi) (hclos : closureFor scope X.env = pure cl) (hkind : scope.kind = .function)
    (hall : ∀ p ∈ scope.names, CapN (cl.map (·.1)) p) (hnames : ∀ p ∈ scope.names, p.2 = .local → scope.names.lookup p.1 = some .local) (hx : scope.names.lookup x = some .local) (hx2 : scope.names.lookup x2 = some .local)
    (hnd : (x :: x2 :: cl.map (·.1)).Nodup) (caps : Caps X scope cl cl sub)
    (ht : ∀ C fp s H, PTs (compX X scope cl (x :: x2 :: cl.map (·.1)) C fp s H) ifs tt) (he : ∀ C fp s H, PE (compX X scope cl (x :: x2 :: cl.map (·.1)) C fp s H) elt te)
    (hs : ∀ x, foldedSetIterable iter X.env x = pure x := by intro _; rfl) : PEC X (.ListComp elt [⟨.Tuple [.Name x px, .Name x2 py] kk pt, iter, ifs, 0⟩] scope pos) iter scope (tComp2 X.K wi sub tt te) := by
  refine pec_comp2 (cl := cl) (fv := cl.map (·.1)) hc hi hclos (fun p hp z => ?_) hkind hnames hx hx2 hnd caps.len caps.at caps.vis caps.cell (fun y hy => ?_) (fun z hz => ?_) ht he hs
  · rcases hall p hp with q | q | ⟨_, q⟩ <;> rw [q] at z <;> cases z
  · obtain ⟨c, e⟩ := lookup_has hy
    rw [e, caps.cell y c e]
  · have far : ∀ k, (k = .cell ∨ k = .free) → (compEnvC scope cl 0 X.env).kindOf z = some k → ∃ c', cl.lookup z = some c' := fun k hkk e => by
      obtain ⟨p, hp, e1, e2⟩ := lookup_at (show (scope.names.map _).lookup z = some k from e)
      obtain ⟨⟨n, kk⟩, hq, rfl⟩ := List.mem_map.mp hp
      rcases hall _ hq with q | q | ⟨q, _⟩
      · have q : kk = .local := q
        subst q
        have e2 : NameKind.local = k := e2
        rcases hkk with r | r <;> rw [r] at e2 <;> cases e2
      · have q : kk = .globalImplicit := q
        subst q
        have e2 : NameKind.globalImplicit = k := e2
        rcases hkk with r | r <;> rw [r] at e2 <;> cases e2
      · have q : n ∈ cl.map (·.1) := q
        have : z = n := by
          rw [e1]
          dsimp only
          split <;> rfl
        rw [this]
        exact lookup_has q
    rcases hz with e | e
    · exact far _ (.inl rfl) e
    · exact far _ (.inr rfl) e
end
theorem comp_enum {K : PySem.W.Frag} {a D : Addr} {xs : List V} {σ : St} {sub : List Nat} {tt : TT} {te : TE} {Q : VK} {H : Hp} (Pv : Nat → List V → Hp → Prop) (h0 : Pv 0 [] (upd H D (.lst []))) (hl : ∀ i ys H, i ≤ xs.length → Pv i ys H → SqL K H a xs)
    (hs : ∀ i x ys H2 t, xs[i]? = some x → Pv i ys H2 → H2 t = none → tt (some (.int (i : Int)) :: some x :: subσ sub σ) (upd H2 t (.tup [.int (i : Int), x])) fun b H4 => if b = true then te (some (.int (i : Int)) :: some x :: subσ sub σ) H4 fun y H5 => H5 D = some (.lst ys) ∧ ys.length < sizeLine ∧ Pv (i + 1) (ys ++ [y]) (upd H5 D (.lst (ys ++ [y]))) else Pv (i + 1) ys H4)
    (hd : ∀ ys H2, Pv xs.length ys H2 → Q (.ref D) H2) :
    ∃ W : Nat → Nat → List V → Hp → Prop, (∃ m, W 0 m [] (upd H D (.lst []))) ∧ ∀ i m ys H2, W i m ys H2 →
      ((Ite K a).stop i H2 ∧ Q (.ref D) H2) ∨ ((Ite K a).go i H2 ∧ ∃ N : List V → Hp → Prop, (∀ ys' H', N ys' H' → ∃ m', m' < m ∧ W (i + 1) m' ys' H') ∧ ∀ v H3, (Ite K a).yld i H2 v H3 → ∃ (t : Addr) (a b : V), v = .ref t ∧ SqT K H3 t [a, b] ∧ tt (some a :: some b :: subσ sub σ) H3 fun c H4 => if c = true then
        te (some a :: some b :: subσ sub σ) H4 fun y H5 => H5 D = some (.lst ys) ∧ ys.length < sizeLine ∧ N (ys ++ [y]) (upd H5 D (.lst (ys ++ [y]))) else N ys H4) := by
  refine ⟨fun i m ys H2 => m = xs.length - i ∧ i ≤ xs.length ∧ Pv i ys H2, ⟨xs.length, by simp, Nat.zero_le _, h0⟩, ?_⟩
  rintro i m ys H2 ⟨rfl, hi, p⟩
  have q := hl i ys H2 hi p
  by_cases hlt : i < xs.length
  · refine .inr ⟨⟨xs, xs[i], q, by simp [hlt]⟩, Pv (i + 1), fun ys' H' p' => ⟨xs.length - (i + 1), by omega, rfl, hlt, p'⟩, fun v H3 y => ?_⟩
    obtain ⟨t, x, e1, nt, e2, y⟩ := y
    subst e1 e2
    exact ⟨t, .int (i : Int), x, rfl, SqT.of upd_same, hs i x ys _ t (y xs q) p nt⟩
  · have e : i = xs.length := by omega
    subst e
    exact .inl ⟨⟨xs, q, Nat.le_refl _⟩, hd ys H2 p⟩
end L2
namespace L2
open PySem PySem.Spec PyProof.Rows
def inS (zs : List Str) (i : Nat) : Str → Bool := fun k => decide (k ∈ zs.take i)
abbrev SetS (P : Program) (w : World) (a : Addr) (zs : List Str) (i : Nat) (h : Heap) : Prop := h.SetOf (strKind P w) a (inS zs i) i
theorem SetS.at {P : Program} {w : World} {a : Addr} {zs : List Str} {i : Nat} {h h' : Heap} (x : SetS P w a zs i h) (e : ∀ o, h.get? a = some o → h'.get? a = some o) : SetS P w a zs i h' := by
  obtain ⟨o, es, ep, t, ho, r⟩ := x
  exact ⟨o, es, ep, t, e o ho, r⟩
section
variable {prog : Program} {w : World} {A : Around} {R : Result → Shared → Prop} {it : Addr} {fp wr : List Addr} {G : Array GenState → Array GenState → Prop} {P : Nat → Value → Prop} {St : Nat → Shared → Prop}
theorem set_loop {zs : List Str} (W : WalksS prog w A.in1 it fp wr G zs.length P St) (S : Addr) (hS : S ∉ fp) (val : ∀ i v, P i v → ∃ z t, zs[i]? = some z ∧ v = .str z t) (nd : zs.Nodup) (hb : zs.length + 1 < scanBound) :
    ∀ (k i : Nat) (s : Shared), zs.length - i = k → i ≤ zs.length → St i s → SetS prog w S zs i s.heap →
      (∀ s', Moved (S :: wr) G s s' → SetS prog w S zs zs.length s'.heap → R (.ok (.ret .none)) s') →
      codeAny (model prog w) A (.builtin "set.update.loop" ⟨[.ref S, .ref it], []⟩) R s := by
  have nw : S ∉ wr := fun z => hS (W.sub _ z)
  have up : ∀ b ∈ wr, b ∈ S :: wr := fun b z => List.mem_cons_of_mem _ z
  intro k
  induction k with
  | zero =>
    intro i s ek le st x fin
    have e : i = zs.length := by omega
    subst e
    refine codeAny_builtin F.entry_set_update_loop ?_
    rw [Around.under_plainId F.plain_set_update_loop _]
    show wpAny _ A.in1 (pyNext (.ref it) >>= _) _ _ s
    refine wpAny_bind (W.done s _ _ st fun s' mv => ?_)
    exact wpAny_pure (fin s' (mv.mono up) (x.at fun o e => mv.heap S o nw e))
  | succ k ih =>
    intro i s ek le st x fin
    refine codeAny_builtin F.entry_set_update_loop ?_
    rw [Around.under_plainId F.plain_set_update_loop _]
    show wpAny _ A.in1 (pyNext (.ref it) >>= _) _ _ s
    refine wpAny_bind (W.item i s _ _ (by omega) st fun v s' pv st' mv => ?_)
    obtain ⟨z, t, ez, rfl⟩ := val i v pv
    have x' := x.at fun o e => mv.heap S o nw e
    show wpAny _ A.in1 (holding [Value.str z t] (setAdd S (.str z t)) >>= _) _ _ s'
    refine wpAny_bind (wpAny_holding ?_)
    unfold setAdd
    refine wpAny_holding ?_
    refine wpAny_bind ((strKind prog w).pyHash (k := z) (strKind_is _ _ _ _) ?_)
    have new : inS zs i z = false := by
      refine decide_eq_false fun q => ?_
      obtain ⟨j, hj, e⟩ := List.getElem_of_mem q
      rw [List.length_take] at hj
      rw [List.getElem_take] at e
      have hi := (List.getElem?_eq_some_iff.mp ez)
      exact (List.pairwise_iff_getElem.mp nd j i (by omega) hi.1 (by omega)) (e.trans hi.2.symm)
    refine wpAny_setAddHashed_of (knd := strKind prog w) (s := { s' with toks := s'.toks + 1 }) (strKind_is _ _ _ _) rfl x' (by omega) fun h' sb x2 => ?_
    have x3 : SetS prog w S zs (i + 1) h' := SetOf_congr x2 (fun k' => by
      unfold inS
      rw [List.take_add_one, ez, Bool.eq_iff_iff]
      simp) (by rw [new]; rfl)
    refine wpAny_pure ⟨plainId_quiet F.plain_set_update_loop _, ih (i + 1) _ (by omega) (by omega) (W.frame _ s' _ _ st' (Nat.le_succ _) fun b hb o e => ?_) x3 fun s'' mv'' x4 => ?_⟩
    · rw [sb.2 b (fun h : b = S => hS (by rw [← h]; exact hb))]; exact e
    · refine fin s'' (Moved.trans W.gtrans ((mv.mono up).then_heap (Nat.le_succ _) fun b o hb e => ?_) mv'') x4
      rw [sb.2 b (fun h : b = S => hb (by rw [h]; exact List.mem_cons_self))]; exact e
end
section
variable {prog : Program} {w : World} {A : Around} {E : Value → Shared → Prop} {s : Shared}
abbrev newSet (b : Bool) : Obj := { cls := .type "set", dict := none, data := .set #[] 0 (.fresh 0 0 b) }
theorem strs_at : ∀ {vs : List Value} {zs : List Str}, StrsAre vs zs → ∀ (i : Nat) (v : Value), vs[i]? = some v → ∃ z t, zs[i]? = some z ∧ v = .str z t
  | _, _, .nil, i, v, h => by simp at h
  | _, _, .cons z t r, 0, v, h => ⟨z, t, rfl, by simpa using h.symm⟩
  | _, _, .cons z t r, i + 1, v, h => by
    obtain ⟨z', t', e1, e2⟩ := strs_at r i v (by simpa using h)
    exact ⟨z', t', by simpa using e1, e2⟩
theorem call_set_strs {l : Addr} {its : Array Value} {zs : List Str} {Q : Value → Shared → Prop} (hh : A.handled = none) (hl : s.heap.IsList l its) (hs : StrsAre its.toList zs) (nd : zs.Nodup) (hb : zs.length + 1 < scanBound)
    (q : ∀ (h' : Heap) (tk : Nat), SetS prog w s.heap.objs.size zs zs.length h' → (∀ a o, a < s.heap.objs.size → s.heap.get? a = some o → h'.get? a = some o) → Q (.ref s.heap.objs.size) { s with heap := h', toks := tk }) :
    wpAny (model prog w) A (call (.type "set") [.ref l]) Q E s := by
  have ft := PySem.F.called_set
  obtain ⟨c0, tl0, m0⟩ := ft.mro
  have m1 := ft.made
  have m2 := ft.sub
  have hlen : its.size = zs.length := by
    have := hs.length
    rw [Array.length_toList] at this
    exact this
  refine wpAny_call (codeAny_of_tree ?_)
  show wpAny _ _ (callAny (.type "set") _) _ _ _
  refine wpAny_pure ⟨Code.quiet_builtin _ (by decide +kernel), codeAny_builtin PySem.F.entry_type_call ?_⟩
  rw [Around.under_plain (weight_type_call_type "set" [.ref l] []) rfl]
  have m3 := ft.notType
  have m4 := ft.canCreate
  have m5 := PySem.F.typeCall_set_1 (.ref l)
  repeat (any_goals (first | assumption | wp_step))
  refine codeAny_mono (PySem.code_set_new_1 (.ref l) (E := E) (Q₁ := fun o s1 => ∃ b : Bool, o = .ref s.heap.objs.size ∧ s1 = { s with heap := s.heap.push (newSet b) }) fun b => ⟨b, rfl, rfl⟩) fun r s1 hr => ?_
  cases r with
  | error e => exact hr
  | ok fl =>
    cases fl with
    | ret o =>
      obtain ⟨b, rfl, rfl⟩ := hr
      have hS : (s.heap.push (newSet b)).get? s.heap.objs.size = some (newSet b) := Heap.get?_push_size _ rfl
      have hT : Shared.TypeIs { s with heap := s.heap.push (newSet b) } (.ref s.heap.objs.size) "set" := ⟨_, hS, rfl⟩
      have n1 := ft.init.lookup
      have n2 := ft.init.bind (.ref s.heap.objs.size)
      repeat (any_goals (first | assumption | wp_step))
      refine codeAny_mono (codeAny_call_builtin (R := wants (fun r s2 => r = .none ∧ ∃ h' tk, s2 = { s with heap := h', toks := tk } ∧ SetS prog w s.heap.objs.size zs zs.length h' ∧ ∀ a o, a < s.heap.objs.size → s.heap.get? a = some o → h'.get? a = some o) E) ft.init.plain PySem.F.entry_set_init (PySem.check_set_init_1 hT ?_)) fun r2 s2 hr2 => ?_
      · obtain ⟨ol, hol, hcl, nl, hdl⟩ := hl
        obtain ⟨oc, od, oa, os⟩ := ol
        simp only at hcl hdl
        subst hcl; subst hdl
        have ho1 : (s.heap.push (newSet b)).get? l = some { cls := .type "list", dict := od, data := .seq its nl, slots := os } := Heap.get?_push_of_some _ hol
        have k1 := PySem.F.sub_list_set
        have k2 := PySem.F.sub_list_frozenset
        have k3 : (Value.type "list" == Value.type "dict") = false := by decide
        have l1 : (s.heap.push (newSet b)).IsList l its := ⟨_, ho1, rfl, nl, rfl⟩
        have lS : l < s.heap.objs.size := Heap.lt_size hol
        unfold Builtin.«set.__init__» noKeywords Builtin.Frozenset.updateFrom
        generalize eI : pyIter = PI
        wp_walk
        subst eI
        refine wpAny_pyIter_list l1 ?_
        refine wpAny_bind (wpAny_runValue ?_)
        have zp : (s.heap.push (newSet b)).objs.size = s.heap.objs.size + 1 := Heap.size_push _ _
        have d1 : l ≠ (s.heap.push (newSet b)).objs.size := by rw [zp]; exact Nat.ne_of_lt (Nat.lt_succ_of_lt lS)
        have d2 : s.heap.objs.size ∉ [(s.heap.push (newSet b)).objs.size, l] := by
          rw [zp]
          intro z
          rcases List.mem_cons.mp z with z | z
          · exact Nat.ne_of_lt (Nat.lt_succ_self _) z
          · exact Nat.ne_of_gt lS (List.mem_singleton.mp z)
        have W := (Walks.list (prog := prog) (w := w) (A := A.in1.in1.in1) (by simp [hh]) _ l d1 its).toS
        rw [hlen] at W
        refine set_loop W s.heap.objs.size d2 (fun i v hv => strs_at hs i v (by rw [Array.getElem?_toList]; exact hv)) nd hb (zs.length - 0) 0 _ (by omega) (Nat.zero_le _) ⟨⟨_, Heap.get?_push_size _ rfl, rfl, rfl⟩, l1.push _⟩ ?s0 ?fin
        case s0 =>
          exact SetOf_congr ((setObjOf_fresh (knd := strKind prog w) b).setOf (Heap.get?_push_of_some _ hS) (by unfold scanBound; omega)) (fun _ => by unfold inS; simp) rfl
        case fin =>
          intro s' mv x
          obtain ⟨h', g', d', tk', os'⟩ := s'
          obtain rfl : g' = s.gens := mv.gens
          obtain rfl : d' = s.drawn := mv.drawn
          obtain rfl : os' = s.os := mv.os
          refine wpAny_pure ?_
          show wpAny _ _ (ret Value.none) _ _ _
          refine wpAny_pure ⟨rfl, h', tk', rfl, x, fun a o ha e => mv.heap a o (fun z => ?_) (Heap.get?_push_of_some _ (Heap.get?_push_of_some _ e))⟩
          rcases List.mem_cons.mp z with z | z
          · exact Nat.ne_of_lt ha z
          · rw [zp] at z
            exact Nat.ne_of_lt (Nat.lt_succ_of_lt ha) (List.mem_singleton.mp z)
      · cases r2 with
        | error e => exact hr2
        | ok f2 =>
          cases f2 with
          | ret r =>
            obtain ⟨rfl, h', tk, rfl, x, kp⟩ := hr2
            repeat (any_goals (first | assumption | wp_step))
            exact q _ _ x kp
          | _ => exact hr2.elim
    | _ => exact hr.elim
end
end L2
namespace L2
open PySem PySem.Spec PyProof.Rows
theorem call_setS {X : Cx} (hc : X.calm = true) : CallR X (.type "set") (fun xs H Q => ∃ (a : Addr) (zs : List Str), xs = [.ref a] ∧ SqL X.K H a (zs.map V.str) ∧ zs.Nodup ∧ zs.length ≤ 1000 ∧ ∀ p, H p = none → Q (.ref p) (upd H p (.ext (SetS X.prog X.w p zs zs.length)))) := by
  intro pins s σ H xs us Q I r h
  obtain ⟨a, zs, rfl, hS, nd, hz, q⟩ := h
  obtain ⟨u, rfl, ru⟩ := vals1 r
  cases (show u = Value.ref a from ru)
  obtain ⟨its, rv, p, _⟩ := I.list hS
  refine call_set_strs (I.ok.hd hc) p.isList (by simpa using strs_of rv) nd (by unfold scanBound; omega) fun h' tk x kp => ?_
  refine ⟨.ref s.heap.objs.size, _, I.laid (o := .ext (SetS X.prog X.w s.heap.objs.size zs zs.length)) (t' := tk) (h' := h') (fun b u e => kp b u (Heap.lt_size e) e) (Nat.le_refl _) (by
    obtain ⟨o, _, _, _, e, _⟩ := id x
    exact ⟨x, ⟨o, e⟩, fun h1 h2 e k => e.at k⟩), rfl, q _ (I.hok.fresh (Nat.le_refl _))⟩
theorem call_lenS {X : Cx} : CallR X (.builtin "len") (fun xs H Q => ∃ (a : Addr) (zs : List Str), xs = [.ref a] ∧ H a = some (.ext (SetS X.prog X.w a zs zs.length)) ∧ Q (.int zs.length) H) := by
  intro pins s σ H xs us Q I r h
  obtain ⟨a, zs, rfl, hS, q⟩ := h
  obtain ⟨u, rfl, ru⟩ := vals1 r
  cases (show u = Value.ref a from ru)
  obtain ⟨o, es, ep, t, ho, hex, hd, _, _, hb, hf, hn⟩ := (show ObjOk X.prog X.w H s.heap a _ from I.hok a _ hS).1
  refine call_len_set ho hex hd hf (by unfold scanBound at hb; omega) ⟨.int zs.length, H, I.tok _, ⟨_, by rw [hn]⟩, q⟩
theorem plain_dul : plainId "dict.update.loop" = true := by decide +kernel
theorem entry_dul : entryFor table "dict.update.loop" = some Builtin.«dict.update.loop» := entryFor_of_tree (by kernel_rfl)
end L2
namespace PySem
open PySem PySem.Spec
theorem lk_hook : typeLookup (.type "list") "__getattr__" = pure none := by rw [typeLookup_type, builtinLookup_eq_fast]; kernel_rfl
theorem lk_keys : typeLookup (.type "list") "keys" = pure none := by rw [typeLookup_type, builtinLookup_eq_fast]; kernel_rfl
section
variable {prog : Program} {w : World} {A : Around} {E : Value → Shared → Prop} {h : Heap} {g : Array GenState} {d : Drawn} {t : Nat} {os : OsState} {a : Addr} {o : Obj}
theorem sub_attr : isSubtype (.type "AttributeError") (.type "AttributeError") = pure true := by rw [isSubtype_type]; kernel_rfl
theorem first_attr (vs : List Value) : firstArgMember (.type "AttributeError") vs = pure .none := by
  have e : ((Manifest.find? "AttributeError").elim false fun t => t.mro.contains "StopIteration" || t.mro.contains "SystemExit") = false := by kernel_rfl
  simp only [firstArgMember, e]
  rfl
theorem raise_attr {α : Type} {name msg : Str} {s : Shared} {Q : α → Shared → Prop} (hm : msg.length ≤ sizeLine) (hh : A.handled = none)
    (hq : ∀ h' tk e, (∀ b o, s.heap.get? b = some o → h'.get? b = some o) → (∃ ob, h'.get? e = some ob ∧ ob.cls = .type "AttributeError") → E (.ref e) { s with heap := h', toks := tk }) :
    wpAny (model prog w) A (raiseAttrError (.ref a) name msg) Q E s := by
  unfold raiseAttrError
  refine wpAny_bind (wpAny_mkStr ?_ hm)
  refine wpAny_bind ?_
  unfold newExc newTuple
  refine wpAny_bind (wpAny_newObj_type ?_ (by show 1 ≤ sizeLine; decide))
  refine wpAny_bind (m := firstArgMember _ _) (wpAny_of_eq (first_attr _) ?_)
  refine wpAny_newObj_type ?_ (by first | trivial | size_fits)
  refine wpAny_bind (wpAny_mkText ?_)
  have hT : ∀ tk, Shared.TypeIs { s with heap := (s.heap.push { cls := .type "tuple", data := .seq #[Value.str msg s.toks] }).push { cls := .type "AttributeError", data := .fields (#[Value.ref s.heap.objs.size, .none, .none, .none, .bool false, .none] ++ ownMembersOf (.type "AttributeError") [Value.str msg s.toks]) }, toks := tk } (.ref (s.heap.push { cls := .type "tuple", data := .seq #[Value.str msg s.toks] }).objs.size) "AttributeError" := fun tk => ⟨_, Heap.get?_push_size _ rfl, rfl⟩
  have hG : ((s.heap.push { cls := .type "tuple", data := .seq #[Value.str msg s.toks] }).push { cls := .type "AttributeError", data := .fields (#[Value.ref s.heap.objs.size, .none, .none, .none, .bool false, .none] ++ ownMembersOf (.type "AttributeError") [Value.str msg s.toks]) }).get? (s.heap.push { cls := .type "tuple", data := .seq #[Value.str msg s.toks] }).objs.size = some { cls := .type "AttributeError", data := .fields (#[Value.ref s.heap.objs.size, .none, .none, .none, .bool false, .none] ++ ownMembersOf (.type "AttributeError") [Value.str msg s.toks]) } := Heap.get?_push_size _ rfl
  refine wpAny_bind ?_
  unfold noteAttr lacksNameAndObj
  refine wpAny_bind ?_
  refine wpAny_bind (wpAny_isInstance (hT _) sub_attr ?_)
  rw [if_neg (by decide)]
  refine wpAny_bind (wpAny_load hG ?_)
  rw [show ownMembersOf (.type "AttributeError") [Value.str msg s.toks] = #[unsetMember, unsetMember] from rfl]
  refine wpAny_pure ?_
  rw [if_pos rfl]
  refine wpAny_bind (wpAny_rule ?_)
  refine wpAny_bind (wpAny_typeOf (hT _) ?_)
  unfold layMembers
  refine wpAny_bind (wpAny_load hG ?_)
  refine wpAny_update hG ?_
  unfold raiseNew
  refine wpAny_bind (wpAny_handled ?_)
  rw [hh]
  refine wpAny_bind (wpAny_pure (wpAny_throw ?_))
  refine hq _ _ _ (fun b o e => ?_) ⟨_, Heap.get?_update_self _ hG (Obj.isFreed_of_fields (Obj.data_mapFields rfl _)), Obj.cls_mapFields _ _⟩
  rw [Heap.get?_update_ne _ _ _ _ (Nat.ne_of_lt (Nat.lt_of_lt_of_le (Heap.lt_size e) (by simp)))]
  exact Heap.get?_push_of_some _ (Heap.get?_push_of_some _ e)
theorem keys_entry {tk : Tok} {Q : Fin → Shared → Prop} (hh : A.handled = none) {its : Array Value} {n : Nat} {sl : Array (Option Value)} (hx : h.get? a = some { cls := .type "list", dict := none, data := .seq its n, slots := sl })
    (hq : ∀ h' tk' e, (∀ b o, h.get? b = some o → h'.get? b = some o) → (∃ ob, h'.get? e = some ob ∧ ob.cls = .type "AttributeError") → E (.ref e) ⟨h', g, d, tk', os⟩) :
    wpAny (model prog w) A (Builtin.«object.__getattribute__» ⟨[.ref a, .str "keys" tk], []⟩) Q E ⟨h, g, d, t, os⟩ := by
  have hT : (⟨h, g, d, t, os⟩ : Shared).TypeIs (.ref a) "list" := ⟨_, hx, rfl⟩
  have f4 := lk_keys
  repeat (any_goals (first | assumption | wp_step))
  exact raise_attr (Nat.le_of_ble_eq_true (by kernel_rfl)) hh hq
theorem keys_by {tk : Tok} {Q : Value → Shared → Prop} (hh : A.handled = none) {its : Array Value} {n : Nat} {sl : Array (Option Value)} (hx : h.get? a = some { cls := .type "list", dict := none, data := .seq its n, slots := sl })
    (hq : ∀ h' tk' e, (∀ b o, h.get? b = some o → h'.get? b = some o) → (∃ ob, h'.get? e = some ob ∧ ob.cls = .type "AttributeError") → E (.ref e) ⟨h', g, d, tk', os⟩) :
    wpAny (model prog w) A (getAttrBy (.ref a) (.str "keys" tk) false) Q E ⟨h, g, d, t, os⟩ := by
  have hT : (⟨h, g, d, t, os⟩ : Shared).TypeIs (.ref a) "list" := ⟨_, hx, rfl⟩
  have f2 := F.slot_list_getattribute.lookup
  have f3 := F.slot_list_getattribute.bind (.ref a)
  repeat (any_goals (first | assumption | wp_step))
  refine codeAny_call_builtin F.slot_list_getattribute.plain F.entry_list_ga (F.slot_list_getattribute.check _ _ _ _ _ _ _ _ hT (F.args_list_getattribute_2 _ _) (keys_entry (by simp [hh]) hx fun h' tk' e k x => ?_))
  dsimp only
  unfold getattributeRaised
  have hTe : (⟨h', g, d, tk', os⟩ : Shared).TypeIs (.ref e) "AttributeError" := x
  have s1 := sub_attr
  have s2 := lk_hook
  repeat (any_goals (first | assumption | wp_step))
  exact hq _ _ _ k x
theorem no_keys {Q : Option Value → Shared → Prop} {s : Shared} (hh : A.handled = none) {its : Array Value} {n : Nat} {sl : Array (Option Value)} (hx : s.heap.get? a = some { cls := .type "list", dict := none, data := .seq its n, slots := sl })
    (hq : ∀ h' tk', (∀ b o, s.heap.get? b = some o → h'.get? b = some o) → Q none { s with heap := h', toks := tk' }) : wpAny (model prog w) A (getAttr? (.ref a) "keys") Q E s := by
  obtain ⟨h, g, d, t, os⟩ := s
  unfold getAttr? getAttrBy?
  refine wpAny_bind (wpAny_mkText ?_)
  refine wpAny_bind (wpAny_attempt (keys_by hh hx fun h' tk' e k x => ?_))
  refine wpAny_bind (wpAny_isInstance x sub_attr ?_)
  exact wpAny_pure (hq _ _ k)
end
end PySem
namespace L2
open PySem PySem.Spec PyProof.Rows
section
variable {prog : Program} {w : World} {A : Around} {R : Result → Shared → Prop} {it : Addr} {fp wr : List Addr} {G : Array GenState → Array GenState → Prop} {P : Nat → Value → Prop} {St : Nat → Shared → Prop}
theorem merged_snoc (kvs : List (Key × Value)) (p : Key × Value) : merged [] (kvs ++ [p]) = stored (merged [] kvs) p.1 p.2 := by
  unfold merged
  rw [List.foldl_append]
  rfl
theorem stored_len (kvs : List (Key × Value)) (k : Key) (v : Value) : (stored kvs k v).length ≤ kvs.length + 1 := by
  unfold stored
  split
  · rw [List.length_map]; omega
  · rw [List.length_append]; exact Nat.le_refl _
theorem merged_len : ∀ (ms kvs : List (Key × Value)), (merged kvs ms).length ≤ kvs.length + ms.length
  | [], kvs => Nat.le_refl _
  | p :: ms, kvs => by
    have h1 := merged_len ms (stored kvs p.1 p.2)
    have h2 := stored_len kvs p.1 p.2
    show (merged (stored kvs p.1 p.2) ms).length ≤ _
    rw [List.length_cons]
    omega
theorem dict_loop {kvs : List (Key × Value)} {hb : Heap} (W : WalksS prog w A.in1 it fp wr G kvs.length P St) (S : Addr) (hS : S ∉ fp)
    (tp : ∀ j v, P j v → ∃ y x p u, kvs[j]? = some (y, x) ∧ v = .ref p ∧ p ≠ S ∧ p ∉ wr ∧ IsTup hb p #[u, x] ∧ (mixKind prog w).is y u = true) (hz : kvs.length ≤ 1000) :
    ∀ (k i : Nat) (s : Shared), kvs.length - i = k → i ≤ kvs.length → St i s → s.heap.DictOf (mixKind prog w) S (merged [] (kvs.take i)) → (∀ b o, b ∉ S :: wr → hb.get? b = some o → s.heap.get? b = some o) →
      (∀ s', Moved (S :: wr) G s s' → s'.heap.DictOf (mixKind prog w) S (merged [] kvs) → R (.ok (.ret .none)) s') →
      codeAny (model prog w) A (.builtin "dict.update.loop" ⟨[.ref S, .ref it, rawInt (i : Int), .none], []⟩) R s := by
  have nw : S ∉ wr := fun z => hS (W.sub _ z)
  have up : ∀ b ∈ wr, b ∈ S :: wr := fun b z => List.mem_cons_of_mem _ z
  intro k
  induction k with
  | zero =>
    intro i s ek le st x kp fin
    have e : i = kvs.length := by omega
    subst e
    rw [List.take_length] at x
    refine codeAny_builtin entry_dul ?_
    rw [Around.under_plainId plain_dul _]
    show wpAny _ A.in1 (pyNext (.ref it) >>= _) _ _ s
    refine wpAny_bind (W.done s _ _ st fun s' mv => ?_)
    refine wpAny_bind (wpAny_pure ?_)
    exact wpAny_pure (fin s' (mv.mono up) (x.at fun o e => mv.heap S o nw e))
  | succ k ih =>
    intro i s ek le st x kp fin
    refine codeAny_builtin entry_dul ?_
    rw [Around.under_plainId plain_dul _]
    show wpAny _ A.in1 (pyNext (.ref it) >>= _) _ _ s
    refine wpAny_bind (W.item i s _ _ (by omega) st fun v s' pv st' mv => ?_)
    obtain ⟨y, z, p, u, ez, rfl, pS, pw, tt, hu⟩ := tp i v pv
    have x' := x.at fun o e => mv.heap S o nw e
    have pn : p ∉ S :: wr := fun q => by
      rcases List.mem_cons.mp q with q | q
      · exact pS q
      · exact pw q
    obtain ⟨o, ho, oc, n, od⟩ := tt
    have ho' : s'.heap.get? p = some o := mv.heap p o pw (kp p o pn ho)
    refine wpAny_bind (wpAny_holding ?_)
    refine wpAny_bind (wpAny_tryCatch ?_)
    unfold Builtin.Dict.pairItems
    refine wpAny_bind (wpAny_typeOf (T := "tuple") ⟨o, ho', oc⟩ ?_)
    rw [if_pos (by decide)]
    refine wpAny_bind (wpAny_seqItems ho' od ?_)
    refine wpAny_pure ?_
    show wpAny _ _ (holding [u, z] (dictSet S u z)) _ _ _
    refine wpAny_holding ?_
    have hln := merged_len (kvs.take i) []
    rw [List.length_take, List.length_nil] at hln
    refine wpAny_dictSet_pairs hu x' (fun h' dd sb => ?_) (by rw [sizeLine_eq]; omega)
    have et : kvs.take (i + 1) = kvs.take i ++ [(y, z)] := by rw [List.take_add_one, ez]; rfl
    refine wpAny_pure ⟨plainId_quiet plain_dul _, ?_⟩
    have step := ih (i + 1) { s' with heap := h', toks := s'.toks + 1 } (by omega) (by omega) (W.frame _ s' _ _ st' (Nat.le_succ _) fun b hb o e => ?_) (by rw [et, merged_snoc]; exact dd) (fun b o hb e => ?_) (fun s'' mv'' x4 => ?_)
    · have e1 : rawInt ((i + 1 : Nat) : Int) = rawInt ((i : Int) + 1) := by push_cast; rfl
      rw [e1] at step
      exact step
    · rw [sb.2 b (fun h : b = S => hS (by rw [← h]; exact hb))]; exact e
    · rw [sb.2 b (fun h : b = S => hb (by rw [h]; exact List.mem_cons_self))]
      exact mv.heap b o (fun q => hb (up b q)) (kp b o hb e)
    · refine fin s'' (Moved.trans W.gtrans ((mv.mono up).then_heap (Nat.le_succ _) fun b o hb e => ?_) mv'') x4
      rw [sb.2 b (fun h : b = S => hb (by rw [h]; exact List.mem_cons_self))]; exact e
end
section
variable {prog : Program} {w : World} {A : Around} {E : Value → Shared → Prop} {s : Shared}
theorem call_dict_pairs {l : Addr} {its : List Value} {n : Nat} {kvs : List (Key × Value)} {Q : Value → Shared → Prop} (hh : A.handled = none) (hl : s.heap.get? l = some { cls := .type "list", dict := none, data := .seq its.toArray n, slots := #[] })
    (tp : ∀ (j : Nat) (v : Value), its[j]? = some v → ∃ y x p u, kvs[j]? = some (y, x) ∧ v = .ref p ∧ IsTup s.heap p #[u, x] ∧ (mixKind prog w).is y u = true) (hk : kvs.length = its.length) (hz : kvs.length ≤ 1000)
    (q : ∀ (h' : Heap) (tk : Nat), h'.DictOf (mixKind prog w) s.heap.objs.size (merged [] kvs) → (∀ a o, s.heap.get? a = some o → h'.get? a = some o) → Q (.ref s.heap.objs.size) { s with heap := h', toks := tk }) :
    wpAny (model prog w) A (call (.type "dict") [.ref l]) Q E s := by
  refine callType_codes (Q₁ := fun o s1 => o = .ref s.heap.objs.size ∧ s1 = { s with heap := s.heap.push { cls := .type "dict", data := .dict #[] } }) PySem.F.kt_called_dict (PySem.F.kt_typeCall_dict_1 _) PySem.F.entry_dict_init (kt_code_dict_new _ ⟨rfl, rfl⟩) ?_
  rintro o s1 ⟨rfl, rfl⟩
  have hn : (s.heap.push { cls := .type "dict", data := .dict #[] }).DictOf (mixKind prog w) s.heap.objs.size [] := Heap.DictOf.new s.heap
  have hl1 : (s.heap.push { cls := .type "dict", data := .dict #[] }).get? l = some { cls := .type "list", dict := none, data := .seq its.toArray n, slots := #[] } := Heap.get?_push_of_some _ hl
  have lS : l < s.heap.objs.size := Heap.lt_size hl
  refine ⟨hn.typeIs, PySem.F.args_dict_init_2 _ _, ?_⟩
  unfold Builtin.«dict.__init__»
  refine wpAny_bind ?_
  unfold Builtin.Dict.selfAndRest
  refine wpAny_bind (wpAny_notOrdered_dict hn.typeIs ?_)
  refine wpAny_pure ?_
  show wpAny _ _ (Builtin.Dict.updateFrom "dict.__init__" s.heap.objs.size (.ref l) [] .none) _ _ _
  unfold Builtin.Dict.updateFrom
  refine wpAny_bind (wpAny_typeOf (T := "list") ⟨_, hl1, rfl⟩ ?_)
  rw [if_pos (by decide)]
  refine wpAny_bind (PySem.no_keys (by simp [hh]) hl1 fun h2 tk2 k2 => ?_)
  rw [if_pos (show (Option.isNone (none : Option Value)) = true from rfl)]
  refine wpAny_bind (wpAny_rule ?_)
  have l2 : h2.IsList l its.toArray := ⟨_, k2 _ _ hl1, rfl, n, rfl⟩
  refine wpAny_bind (wpAny_pyIter_list l2 ?_)
  have z2 : s.heap.objs.size < h2.objs.size := by
    obtain ⟨o, _, _, e, _⟩ := hn
    exact Heap.lt_size (k2 _ _ e)
  have d1 : l ≠ h2.objs.size := Nat.ne_of_lt (Nat.lt_trans lS z2)
  have W := (Walks.list (prog := prog) (w := w) (A := A.in1.in1) (by simp [hh]) h2.objs.size l d1 its.toArray).toS
  have ez : its.toArray.size = kvs.length := by rw [List.size_toArray, hk]
  rw [ez] at W
  refine wpAny_pure ⟨plainId_quiet plain_dul _, ?_⟩
  refine dict_loop (hb := s.heap) W s.heap.objs.size (fun z => ?_) (fun j v hv => ?_) hz (kvs.length - 0) 0 _ (by omega) (Nat.zero_le _) ⟨⟨_, Heap.get?_push_size _ rfl, rfl, rfl⟩, l2.push _⟩ ?_ (fun b o hb e => ?_) fun s' mv dd => ?_
  · rcases List.mem_cons.mp z with z | z
    · exact Nat.ne_of_lt z2 z
    · exact Nat.ne_of_gt lS (List.mem_singleton.mp z)
  · obtain ⟨y, x, p, u, e1, e2, e3, e4⟩ := tp j v (by simpa using hv)
    have lp : p < s.heap.objs.size := by
      obtain ⟨o, e, _⟩ := e3
      exact Heap.lt_size e
    exact ⟨y, x, p, u, e1, e2, Nat.ne_of_lt lp, fun z => Nat.ne_of_lt (Nat.lt_trans lp z2) (List.mem_singleton.mp z), e3, e4⟩
  · exact (hn.at fun o e => k2 _ _ e).push _
  · exact Heap.get?_push_of_some _ (k2 _ _ (Heap.get?_push_of_some _ e))
  · obtain ⟨h', g', d', tk', os'⟩ := s'
    obtain rfl : g' = s.gens := mv.gens
    obtain rfl : d' = s.drawn := mv.drawn
    obtain rfl : os' = s.os := mv.os
    refine ⟨rfl, q h' tk' dd fun a o e => mv.heap a o (fun z => ?_) (Heap.get?_push_of_some _ (k2 _ _ (Heap.get?_push_of_some _ e)))⟩
    have la := Heap.lt_size e
    rcases List.mem_cons.mp z with z | z
    · exact Nat.ne_of_lt la z
    · exact Nat.ne_of_lt (Nat.lt_trans la z2) (List.mem_singleton.mp z)
end
theorem call_dictP {X : Cx} (hc : X.calm = true) : CallR X (.type "dict") (fun xs H Q => ∃ (l : Addr) (ps : List Addr) (kvs : List (Key × V)), xs = [.ref l] ∧ H l = some (.lst (ps.map V.ref)) ∧ Paired (fun p (kv : Key × V) => H p = some (.tup [kV kv.1, kv.2])) ps kvs ∧ (kvs.map (·.1)).Nodup ∧ kvs.length ≤ 1000 ∧
    ∀ p, H p = none → Q (.ref p) (upd H p (.dK kvs))) := by
  intro pins s σ H xs us Q I r h
  obtain ⟨l, ps, kvs, rfl, hl, hp, nd, hz, q⟩ := h
  obtain ⟨u, rfl, ru⟩ := vals1 r
  cases (show u = Value.ref l from ru)
  obtain ⟨its, n, rv, ho, hzz⟩ := I.lst hl
  clear hzz
  obtain rfl := vals_refs rv
  have key : ∃ vs : List (Key × Value), KV kvs vs ∧ ∀ (j : Nat) (p : Addr), ps[j]? = some p → ∃ y x u, vs[j]? = some (y, x) ∧ IsTup s.heap p #[u, x] ∧ (mixKind X.prog X.w).is y u = true := by
    clear ho rv q hl nd hz
    induction hp with
    | nil => exact ⟨[], .nil, fun j p e => by simp at e⟩
    | @cons p kv ps kvs e _ ih =>
      obtain ⟨vs, rk, hv⟩ := ih
      obtain ⟨_, ts, rt, it⟩ := (show ObjOk X.prog X.w H s.heap p (.tup [kV kv.1, kv.2]) from I.hok p _ e)
      obtain ⟨u1, u2, rfl, r1, r2⟩ := vals2 rt
      refine ⟨(kv.1, u2) :: vs, .cons ⟨rfl, r2⟩ rk, fun j p' e' => ?_⟩
      cases j with
      | zero =>
        cases (show some p = some p' from e')
        exact ⟨kv.1, u2, u1, rfl, it, kV_is r1⟩
      | succ j => exact hv j p' e'
  obtain ⟨vs, rk, hv⟩ := key
  have hlen : vs.length = kvs.length := (Paired.length rk).symm
  have hpl : ps.length = kvs.length := Paired.length hp
  have big : sysModules < s.heap.objs.size := I.big
  refine call_dict_pairs (kvs := vs) (its := ps.map Value.ref) (I.ok.hd hc) ho (fun j v e => ?_) (by rw [List.length_map]; omega) (by omega) fun h' tk dd kp => ?_
  · rw [List.getElem?_map] at e
    cases ep : ps[j]? with
    | none => rw [ep] at e; cases e
    | some p =>
      rw [ep] at e
      cases e
      obtain ⟨y, x, u, e1, e2, e3⟩ := hv j p ep
      exact ⟨y, x, p, u, e1, rfl, e2, e3⟩
  · have nd2 : (vs.map (·.1)).Nodup := by rw [← KV.keys rk]; exact nd
    rw [merged_nil_of_nodup vs nd2] at dd
    refine ⟨.ref s.heap.objs.size, _, I.laid (o := .dK kvs) (t' := tk) (h' := h') kp (Nat.le_refl _) (dk_new (by rw [sizeLine_eq]; omega) (beq_eq_false_iff_ne.mpr (Ne.symm (Nat.ne_of_lt big))) rk dd), rfl, q _ (I.hok.fresh (Nat.le_refl _))⟩
end L2
namespace L2
open PySem PySem.Spec PyProof.Rows PySem.Builtin PySem.Builtin.ObjectAttr
section
variable {prog : Program} {w : World} {A : Around} {E : Value → Shared → Prop} {s : Shared} {K : PySem.W.Frag} {x C U : Addr} {ox : Obj} {od : Option Obj} {cd : ClassData} {name : Str} {v : Value}
end
section
variable {prog : Program} {w : World} {A : Around} {E : Value → Shared → Prop} {h : Heap} {g : Array GenState} {d : Drawn} {t : Nat} {os : OsState}
variable {nm q : Str} {C N f : Addr} {bs bm bmB bmN : List Value} {hdct : Bool} {sn : List Str} {sub : List Value} {ab : Bool} {col : Option Bool} {dd : Option Addr} {k0 k1 k2 k3 k5 : Option Value} {B Bn newId nid initId inN : String}
end
end L2
namespace L2
open PySem PySem.Spec PyProof.Rows
section
variable {X : Cx} {pins : List (Addr × Obj)} {σ : St} {H : Hp} {s : Shared}
end
section
variable {X : Cx}
end
end L2
namespace L2
open PySem PySem.Spec PyProof.Rows
structure FunD (K : PySem.W.Frag) (x qual : Str) (st : Stmt) (dV : Value) (f : Addr) (fd : FuncData) : Prop where
  ex : ∃ (oc : Value) (od : Option Addr) (kV doc pm : Value) (an : Option Addr) (cdv ct : Value) (osl : Array (Option Value)),
    fd = PySem.W.fnOf x qual (defArgs st) (defBody st) (defScope st) dV kV doc pm an cdv ct ∧ K.lookup f = some ⟨oc, od, .func fd, osl⟩ ∧ PySem.W.codeIn K cdv qual = true
  kp : PySem.W.keepIn K (.ref f) = true
section
variable {P : Program} {w : World} {K : PySem.W.Frag} {mg : Str → Option Value} {base : Heap}
theorem FunD.ok {x qual : Str} {st : Stmt} {dV : Value} {f : Addr} {fd : FuncData} {N ps : List Str} {k : Nat} {sp : Sp} (F : FunD K x qual st dV f fd) (S : FnScope N ps (defScope st)) (len : ∀ vs H Q E, sp vs H Q E → vs.length = ps.length)
    (body : ∀ (cdv : Value) (A : Around) (outer : List Env) (s : Shared) (H : Hp) (vs : List V) (Q : VK) (E : XK), Room k (A.deeper (envOfC qual (defScope st) s.heap.objs.size f cdv)) → sp vs H Q E →
      ∃ t, PSs (cxOf CX0 P w K mg base N qual (defScope st) f cdv A outer s H E).nox (defBody st) t ∧ t { nx := fun _ H' => Q .non H', rt := Q } (start N vs) H) : FnOk P w K mg base CX0 (k + 1) f fd ps sp := by
  obtain ⟨oc, od, kV, doc, pm, an, cdv, ct, osl, rfl, lk, hcd⟩ := F.ex
  refine fn_of lk hcd S len fun A outer s H vs Q E hr hsp => ?_
  obtain ⟨t, h, q⟩ := body cdv A outer s H vs Q E hr hsp
  exact ⟨t, h.nox, q⟩
theorem FunD.mk' {x qual : Str} {st : Stmt} {dV : Value} {f : Addr} {oc : Value} {od an : Option Addr} {osl : Array (Option Value)} {kV doc pm cdv ct : Value} (l : K.lookup f = some ⟨oc, od, .func (PySem.W.fnOf x qual (defArgs st) (defBody st) (defScope st) dV kV doc pm an cdv ct), osl⟩)
    (c : PySem.W.codeIn K cdv qual = true) (k : PySem.W.keepIn K (.ref f) = true) : FunD K x qual st dV f (PySem.W.fnOf x qual (defArgs st) (defBody st) (defScope st) dV kV doc pm an cdv ct) := ⟨⟨oc, od, kV, doc, pm, an, cdv, ct, osl, rfl, l, c⟩, k⟩
theorem FunD.binds {x qual : Str} {st : Stmt} {T : Addr} {o : Obj} {n : Nat} {f : Addr} {fd : FuncData} {ps : List Str} {ds us0 : List Value} (F : FunD K x qual st (.ref T) f fd) (ho : K.lookup T = some o) (hs : o.data = .seq #[Value.none] n)
    (h : ∀ (kV doc pm : Value) (an : Option Addr) (cdv ct : Value) (us : List Value), (us ++ ds).length = ps.length → ∃ k, bindArgs (PySem.W.fnOf x qual (defArgs st) (defBody st) (defScope st) (.ref T) kV doc pm an cdv ct) ⟨us, []⟩ = seqItems? (.ref T) >>= k ∧ k (some #[Value.none]) = pure (ps.zip (us ++ ds))) : Binds K fd ps ds := by
  obtain ⟨oc, od, kV, doc, pm, an, cdv, ct, osl, rfl, lk, hcd⟩ := F.ex
  intro s us X hl
  obtain ⟨k, h1, h2⟩ := h kV doc pm an cdv ct us hl
  exact PySem.W.binds_K X rfl ho hs h1 h2
end
end L2
namespace L2
open PySem PySem.Spec PyProof.Rows
abbrev Fnd := Str × Int × Int × Int × Int
def tupF (r : Fnd) : List V := [.str r.1, .int r.2.1, .int r.2.2.1, .int r.2.2.2.1, .int r.2.2.2.2]
abbrev Deed := Str × Int
def tupD (d : Deed) : List V := [.str d.1, .int d.2]
structure Bk where
  ks : List Str
  fs : List Fnd
  gs : List (Key × V)
  ds : List Deed
def goneV (gs : List (Key × V)) (n : Nat) : Int := match valV gs (Sum.inl (n : Int)) with
  | some (.int t) => t
  | _ => 99
def saysB (gs : List (Key × V)) (k : Str) (t d : Int) (n : Nat) (f : Fnd) : Bool := decide (f.1 = k) && (decide (f.2.2.2.2 ≤ t) && (decide (t < goneV gs n) && (decide (f.2.1 ≤ d) && decide (d ≤ f.2.2.1))))
def lastN (fs : List Fnd) (c : Nat → Fnd → Bool) : Nat → Option Int
  | 0 => none
  | i + 1 => match fs[i]? with
    | some f => if c i f = true then some (i : Int) else lastN fs c i
    | none => lastN fs c i
def Bk.spk (B : Bk) (k : Str) (t d : Int) : Option Int := lastN B.fs (saysB B.gs k t d) B.fs.length
theorem lastN_congr {fs gs : List Fnd} {c c' : Nat → Fnd → Bool} : ∀ {i : Nat}, (∀ j, j < i → fs[j]? = gs[j]?) → (∀ j f, j < i → fs[j]? = some f → c j f = c' j f) → lastN fs c i = lastN gs c' i
  | 0, _, _ => rfl
  | i + 1, h, g => by
    unfold lastN
    rw [← h i (Nat.lt_succ_self i)]
    have ih := lastN_congr (i := i) (fun j hj => h j (Nat.lt_succ_of_lt hj)) fun j f hj e => g j f (Nat.lt_succ_of_lt hj) e
    cases e : fs[i]? with
    | none => exact ih
    | some f =>
      dsimp only
      rw [g i f (Nat.lt_succ_self i) e, ih]
theorem lastN_snoc (fs : List Fnd) (f : Fnd) (c : Nat → Fnd → Bool) : lastN (fs ++ [f]) c (fs ++ [f]).length = if c fs.length f = true then some (fs.length : Int) else lastN fs c fs.length := by
  rw [List.length_append]
  show lastN (fs ++ [f]) c (fs.length + 1) = _
  conv => lhs; unfold lastN
  have e : (fs ++ [f])[fs.length]? = some f := by simp
  rw [e]
  dsimp only
  rw [lastN_congr (fs := fs ++ [f]) (gs := fs) (c := c) (c' := c) (fun j hj => by rw [List.getElem?_append_left hj]) fun _ _ _ _ => rfl]
theorem lastN_lt {fs : List Fnd} {c : Nat → Fnd → Bool} : ∀ {i : Nat} {n : Int}, lastN fs c i = some n → ∃ (j : Nat) (f : Fnd), n = (j : Int) ∧ j < i ∧ fs[j]? = some f ∧ c j f = true
  | 0, _, h => by cases h
  | i + 1, n, h => by
    unfold lastN at h
    cases e : fs[i]? with
    | none =>
      rw [e] at h
      obtain ⟨j, f, a, b, c1, d⟩ := lastN_lt (i := i) h
      exact ⟨j, f, a, Nat.lt_succ_of_lt b, c1, d⟩
    | some f =>
      rw [e] at h
      dsimp only at h
      by_cases hc : c i f = true
      · rw [if_pos hc] at h
        cases h
        exact ⟨i, f, rfl, Nat.lt_succ_self i, e, hc⟩
      · rw [if_neg hc] at h
        obtain ⟨j, f', a, b, c1, d⟩ := lastN_lt (i := i) h
        exact ⟨j, f', a, Nat.lt_succ_of_lt b, c1, d⟩
structure Bk.Ok (B : Bk) : Prop where
  nd : B.ks.Nodup
  k1 : 1 ≤ B.ks.length
  k8 : B.ks.length ≤ 8
  nm : ∀ k ∈ B.ks, Nm k
  fin : ∀ f ∈ B.fs, f.1 ∈ B.ks ∧ 0 ≤ f.2.1 ∧ f.2.1 ≤ f.2.2.1 ∧ f.2.2.1 < 400 ∧ 1 ≤ f.2.2.2.2 ∧ f.2.2.2.2 ≤ B.ds.length
  gin : ∀ n v, valV B.gs n = some v → ∃ (i : Nat) (t : Int), n = Sum.inl (i : Int) ∧ v = .int t ∧ i < B.fs.length ∧ 1 ≤ t ∧ t ≤ B.ds.length
  gsz : B.gs.length ≤ B.ds.length
  fsz : B.fs.length ≤ B.ds.length
  dsz : B.ds.length ≤ 60
  dw : ∀ d ∈ B.ds, Nm d.1
def Bk.new (ks : List Str) : Bk := ⟨ks, [], [], []⟩
theorem Bk.new_ok {ks : List Str} (nd : ks.Nodup) (k1 : 1 ≤ ks.length) (k8 : ks.length ≤ 8) (nm : ∀ k ∈ ks, Nm k) : (Bk.new ks).Ok :=
  ⟨nd, k1, k8, nm, (fun _ h => nomatch h), fun n v h => by simp [Bk.new, valV] at h, Nat.le_refl _, Nat.le_refl _, Nat.zero_le _, fun _ h => nomatch h⟩
def wFind : Str := Str.ofString "find"
def wWith : Str := Str.ofString "withdraw"
def Bk.find (B : Bk) (k : Str) (f l v : Int) : Bk := ⟨B.ks, B.fs ++ [(k, f, l, v, (B.ds.length : Int) + 1)], B.gs, B.ds ++ [(wFind, (B.fs.length : Int))]⟩
def Bk.withd (B : Bk) (n : Nat) : Bk := ⟨B.ks, B.fs, putK B.gs (Sum.inl (n : Int)) (.int ((B.ds.length : Int) + 1)), B.ds ++ [(wWith, (n : Int))]⟩
theorem Bk.Ok.find {B : Bk} (O : B.Ok) {k : Str} {f l v : Int} (hk : k ∈ B.ks) (h0 : 0 ≤ f) (h1 : f ≤ l) (h2 : l < 400) (hr : B.ds.length < 60) : (B.find k f l v).Ok := by
  have el : ((B.find k f l v).ds.length : Int) = (B.ds.length : Int) + 1 := by simp [Bk.find]
  have elf : (B.find k f l v).fs.length = B.fs.length + 1 := by simp [Bk.find]
  have eld : (B.find k f l v).ds.length = B.ds.length + 1 := by simp [Bk.find]
  refine ⟨O.nd, O.k1, O.k8, O.nm, fun x hx => ?_, fun n v' e => ?_, ?_, ?_, ?_, fun d hd => ?_⟩
  · rcases List.mem_append.mp (show x ∈ B.fs ++ [(k, f, l, v, (B.ds.length : Int) + 1)] from hx) with hx | hx
    · obtain ⟨a, b, c, d, e, g⟩ := O.fin x hx
      exact ⟨a, b, c, d, e, by rw [el]; omega⟩
    · rw [List.mem_singleton.mp hx, el]
      exact ⟨hk, h0, h1, h2, by show 1 ≤ (B.ds.length : Int) + 1; omega, Int.le_refl _⟩
  · obtain ⟨i, t, a, b, c, d, e'⟩ := O.gin n v' e
    exact ⟨i, t, a, b, by omega, d, by rw [el]; omega⟩
  · rw [eld]; exact Nat.le_succ_of_le O.gsz
  · rw [elf, eld]; exact Nat.succ_le_succ O.fsz
  · rw [eld]; exact hr
  · rcases List.mem_append.mp hd with hd | hd
    · exact O.dw d hd
    · rw [List.mem_singleton.mp hd]
      show (wFind.cps.all (· < 0x110000)) = true
      decide +kernel
theorem Bk.Ok.withd {B : Bk} (O : B.Ok) {n : Nat} (hn : n < B.fs.length) (hr : B.ds.length < 60) : (B.withd n).Ok := by
  have el : ((B.withd n).ds.length : Int) = (B.ds.length : Int) + 1 := by simp [Bk.withd]
  have eld : (B.withd n).ds.length = B.ds.length + 1 := by simp [Bk.withd]
  refine ⟨O.nd, O.k1, O.k8, O.nm, fun x hx => ?_, fun m v' e => ?_, ?_, ?_, ?_, fun d hd => ?_⟩
  · obtain ⟨a, b, c, d, e, g⟩ := O.fin x hx
    exact ⟨a, b, c, d, e, by rw [el]; omega⟩
  · have e' : valV (putK B.gs (Sum.inl (n : Int)) (.int ((B.ds.length : Int) + 1))) m = some v' := e
    rw [valV_put] at e'
    split at e'
    · rename_i hm
      cases e'
      exact ⟨n, _, hm, rfl, hn, by omega, by rw [el]; exact Int.le_refl _⟩
    · obtain ⟨i, t, a, b, c, d, g⟩ := O.gin m v' e'
      exact ⟨i, t, a, b, c, d, by rw [el]; omega⟩
  · rw [eld]
    exact Nat.le_trans (length_putK _ _ _) (Nat.succ_le_succ O.gsz)
  · rw [eld]; exact Nat.le_succ_of_le O.fsz
  · rw [eld]; exact hr
  · rcases List.mem_append.mp hd with hd | hd
    · exact O.dw d hd
    · rw [List.mem_singleton.mp hd]
      show (wWith.cps.all (· < 0x110000)) = true
      decide +kernel
theorem Bk.Ok.gone {B : Bk} (O : B.Ok) (n : Nat) : (valV B.gs (Sum.inl (n : Int)) = none ∧ goneV B.gs n = 99) ∨ ∃ t : Int, valV B.gs (Sum.inl (n : Int)) = some (.int t) ∧ goneV B.gs n = t ∧ 1 ≤ t ∧ t ≤ B.ds.length := by
  cases e : valV B.gs (Sum.inl (n : Int)) with
  | none => exact .inl ⟨rfl, by unfold goneV; rw [e]⟩
  | some v =>
    obtain ⟨i, t, a, rfl, c, d, g⟩ := O.gin _ v e
    exact .inr ⟨t, rfl, by unfold goneV; rw [e], d, g⟩
theorem Bk.Ok.find_old {B : Bk} (O : B.Ok) {k : Str} {f l v : Int} {t : Int} (ht : t ≤ B.ds.length) (key : Str) (d : Int) : (B.find k f l v).spk key t d = B.spk key t d := by
  unfold Bk.spk Bk.find
  rw [lastN_snoc]
  have : saysB B.gs key t d B.fs.length (k, f, l, v, (B.ds.length : Int) + 1) = false := by
    unfold saysB
    rw [decide_eq_false (show ¬ (B.ds.length : Int) + 1 ≤ t by omega)]
    simp
  rw [this]
  rfl
theorem Bk.Ok.find_now {B : Bk} (O : B.Ok) {k : Str} {f l v : Int} (key : Str) (d : Int) :
    (B.find k f l v).spk key ((B.ds.length : Int) + 1) d = if k = key ∧ f ≤ d ∧ d ≤ l then some (B.fs.length : Int) else B.spk key B.ds.length d := by
  have z := O.dsz
  unfold Bk.spk Bk.find
  rw [lastN_snoc]
  have g0 : goneV B.gs B.fs.length = 99 := by
    rcases O.gone B.fs.length with ⟨_, e⟩ | ⟨t, e, _⟩
    · exact e
    · obtain ⟨i, t', a, b, c, _⟩ := O.gin _ _ e
      have : (B.fs.length : Int) = (i : Int) := Sum.inl.inj a
      omega
  have e1 : saysB B.gs key ((B.ds.length : Int) + 1) d B.fs.length (k, f, l, v, (B.ds.length : Int) + 1) = decide (k = key ∧ f ≤ d ∧ d ≤ l) := by
    unfold saysB
    rw [g0, decide_eq_true (show (B.ds.length : Int) + 1 ≤ (B.ds.length : Int) + 1 from Int.le_refl _), decide_eq_true (show (B.ds.length : Int) + 1 < 99 by omega), Bool.eq_iff_iff]
    simp
  have e2 : lastN B.fs (saysB B.gs key ((B.ds.length : Int) + 1) d) B.fs.length = lastN B.fs (saysB B.gs key B.ds.length d) B.fs.length := lastN_congr (fun _ _ => rfl) fun j x hj e => by
    obtain ⟨_, _, _, _, _, tl⟩ := O.fin x (List.mem_of_getElem? e)
    unfold saysB
    have a1 : decide (x.2.2.2.2 ≤ (B.ds.length : Int) + 1) = decide (x.2.2.2.2 ≤ (B.ds.length : Int)) := by rw [decide_eq_true (show x.2.2.2.2 ≤ (B.ds.length : Int) + 1 by omega), decide_eq_true tl]
    have a2 : decide ((B.ds.length : Int) + 1 < goneV B.gs j) = decide ((B.ds.length : Int) < goneV B.gs j) := by
      rcases O.gone j with ⟨_, e⟩ | ⟨t, _, e, _, _⟩
      · rw [e, decide_eq_true (show (B.ds.length : Int) + 1 < 99 by omega), decide_eq_true (show (B.ds.length : Int) < 99 by omega)]
      · rw [e, decide_eq_false (show ¬ (B.ds.length : Int) + 1 < t by omega), decide_eq_false (show ¬ (B.ds.length : Int) < t by omega)]
    rw [a1, a2]
  rw [e1, e2]
  by_cases hc : k = key ∧ f ≤ d ∧ d ≤ l
  · rw [if_pos hc, if_pos (decide_eq_true hc)]
  · rw [if_neg hc, if_neg (by rw [decide_eq_false hc]; decide)]
theorem goneV_put (gs : List (Key × V)) (n j : Nat) (t : Int) : goneV (putK gs (Sum.inl (n : Int)) (.int t)) j = if j = n then t else goneV gs j := by
  unfold goneV
  rw [valV_put]
  by_cases h : j = n
  · subst h; rw [if_pos rfl, if_pos rfl]
  · rw [if_neg (fun z => h (by have := Sum.inl.inj z; omega)), if_neg h]
theorem Bk.Ok.withd_old {B : Bk} (O : B.Ok) {n : Nat} (hg : valV B.gs (Sum.inl (n : Int)) = none) {t : Int} (ht : t ≤ B.ds.length) (key : Str) (d : Int) : (B.withd n).spk key t d = B.spk key t d := by
  have z := O.dsz
  unfold Bk.spk Bk.withd
  refine lastN_congr (fun _ _ => rfl) fun j x hj e => ?_
  unfold saysB
  have a2 : decide (t < goneV (putK B.gs (Sum.inl (n : Int)) (.int ((B.ds.length : Int) + 1))) j) = decide (t < goneV B.gs j) := by
    rw [goneV_put]
    by_cases h : j = n
    · subst h
      have g0 : goneV B.gs j = 99 := by unfold goneV; rw [hg]
      rw [if_pos rfl, g0, decide_eq_true (show t < (B.ds.length : Int) + 1 by omega), decide_eq_true (show t < 99 by omega)]
    · rw [if_neg h]
  rw [a2]
def nowB (gs : List (Key × V)) (k : Str) (d : Int) (n : Nat) (f : Fnd) : Bool := decide (f.1 = k) && ((valV gs (Sum.inl (n : Int))).isNone && (decide (f.2.1 ≤ d) && decide (d ≤ f.2.2.1)))
theorem Bk.Ok.now {B : Bk} (O : B.Ok) (key : Str) (d : Int) : B.spk key B.ds.length d = lastN B.fs (nowB B.gs key d) B.fs.length := by
  have z := O.dsz
  unfold Bk.spk
  refine lastN_congr (fun _ _ => rfl) fun j x hj e => ?_
  obtain ⟨_, _, _, _, _, tl⟩ := O.fin x (List.mem_of_getElem? e)
  unfold saysB nowB
  rw [decide_eq_true tl]
  rcases O.gone j with ⟨e1, e2⟩ | ⟨t, e1, e2, _, _⟩
  · rw [e1, e2, decide_eq_true (show (B.ds.length : Int) < 99 by omega)]; rfl
  · rw [e1, e2, decide_eq_false (show ¬ (B.ds.length : Int) < t by omega)]; rfl
theorem Bk.Ok.withd_other {B : Bk} (O : B.Ok) {n : Nat} {f : Fnd} (hf : B.fs[n]? = some f) (hr : B.ds.length < 60) {key : Str} (hk : key ≠ f.1) (d : Int) : (B.withd n).spk key ((B.ds.length : Int) + 1) d = B.spk key B.ds.length d := by
  have O' := O.withd (List.getElem?_eq_some_iff.mp hf).1 hr
  have el : ((B.withd n).ds.length : Int) = (B.ds.length : Int) + 1 := by simp [Bk.withd]
  rw [← el, O'.now, O.now]
  refine lastN_congr (fun _ _ => rfl) fun j x hj e => ?_
  unfold nowB
  by_cases h : j = n
  · subst h
    have e' : B.fs[j]? = some x := e
    rw [hf] at e'
    cases e'
    rw [decide_eq_false (fun z => hk z.symm)]
    rfl
  · have : valV (B.withd n).gs (Sum.inl (j : Int)) = valV B.gs (Sum.inl (j : Int)) := by
      show valV (putK _ _ _) _ = _
      rw [valV_put, if_neg (fun z => h (by have := Sum.inl.inj z; omega))]
    rw [this]
end L2
namespace L2
open PySem PySem.Spec PyProof.Rows
def In400 (rs : List RowV) : Prop := ∀ r ∈ rs, 0 ≤ r.1 ∧ r.1 ≤ r.2.1 ∧ r.2.1 < 400
theorem In400.snoc {cs : List RowV} {r : RowV} (h : In400 cs) (h1 : 0 ≤ r.1) (h2 : r.1 ≤ r.2.1) (h3 : r.2.1 < 400) : In400 (cs ++ [r]) := fun c hc => by
  rcases List.mem_append.mp hc with hc | hc
  · exact h c hc
  · rw [List.mem_singleton.mp hc]; exact ⟨h1, h2, h3⟩
structure BA where
  n : Addr
  f : Addr
  w : Addr
  d : Addr
  t : Addr
def bflds (a : BA) : List (Str × V) := [("names", V.ref a.n), ("findings", V.ref a.f), ("withdrawals", V.ref a.w), ("deeds", V.ref a.d), ("tables", V.ref a.t)]
theorem bf_n (a : BA) : (bflds a).lookup ("names" : Str) = some (.ref a.n) := rfl
theorem ne_s {x y : Str} (h : decide (x = y) = false) : (x == y) = false := by
  have : ¬ x = y := of_decide_eq_false h
  simpa [beq_eq_false_iff_ne] using this
theorem bf_f (a : BA) : (bflds a).lookup ("findings" : Str) = some (.ref a.f) := by
  unfold bflds
  rw [List.lookup_cons, ne_s (by decide +kernel)]
  rfl
theorem bf_w (a : BA) : (bflds a).lookup ("withdrawals" : Str) = some (.ref a.w) := by
  unfold bflds
  rw [List.lookup_cons, ne_s (by decide +kernel), List.lookup_cons, ne_s (by decide +kernel)]
  rfl
theorem bf_d (a : BA) : (bflds a).lookup ("deeds" : Str) = some (.ref a.d) := by
  unfold bflds
  rw [List.lookup_cons, ne_s (by decide +kernel), List.lookup_cons, ne_s (by decide +kernel), List.lookup_cons, ne_s (by decide +kernel)]
  rfl
theorem bf_t (a : BA) : (bflds a).lookup ("tables" : Str) = some (.ref a.t) := by
  unfold bflds
  rw [List.lookup_cons, ne_s (by decide +kernel), List.lookup_cons, ne_s (by decide +kernel), List.lookup_cons, ne_s (by decide +kernel), List.lookup_cons, ne_s (by decide +kernel)]
  rfl
theorem bf_no (a : BA) {m : Str} (h1 : decide (m = "names") = false) (h2 : decide (m = "findings") = false) (h3 : decide (m = "withdrawals") = false) (h4 : decide (m = "deeds") = false) (h5 : decide (m = "tables") = false) : (bflds a).lookup m = none := by
  unfold bflds
  rw [List.lookup_cons, ne_s h1, List.lookup_cons, ne_s h2, List.lookup_cons, ne_s h3, List.lookup_cons, ne_s h4, List.lookup_cons, ne_s h5]
  rfl
theorem bf_put (a : BA) : putF "tables" (.ref a.t) (putF "deeds" (.ref a.d) (putF "withdrawals" (.ref a.w) (putF "findings" (.ref a.f) (putF "names" (.ref a.n) [])))) = bflds a := by
  have e1 : ¬ (("names" : Str) = "findings") := by decide +kernel
  have e2 : ¬ (("names" : Str) = "withdrawals") := by decide +kernel
  have e3 : ¬ (("findings" : Str) = "withdrawals") := by decide +kernel
  have e4 : ¬ (("names" : Str) = "deeds") := by decide +kernel
  have e5 : ¬ (("findings" : Str) = "deeds") := by decide +kernel
  have e6 : ¬ (("withdrawals" : Str) = "deeds") := by decide +kernel
  have e7 : ¬ (("names" : Str) = "tables") := by decide +kernel
  have e8 : ¬ (("findings" : Str) = "tables") := by decide +kernel
  have e9 : ¬ (("withdrawals" : Str) = "tables") := by decide +kernel
  have e10 : ¬ (("deeds" : Str) = "tables") := by decide +kernel
  simp only [putF, bflds, e1, e2, e3, e4, e5, e6, e7, e8, e9, e10, if_false]
def BA.M (a : BA) (b : Addr) : Prop := b = a.f ∨ b = a.w ∨ b = a.d ∨ b = a.t
structure RowT (H : Hp) (a : BA) (F : Addr → Prop) (B : Bk) (ra : Addr) (rs : List RowV) (k : Str) (i : Nat) : Prop where
  fp : F ra
  nm : ¬ a.M ra
  rl : RowsL H ra rs
  td : Strip.Tidy rs
  i4 : In400 rs
  dy : ∀ x, Strip.dayOf rs x = (B.spk k i x).map V.int
structure TabAt (H : Hp) (a : BA) (F : Addr → Prop) (B : Bk) (x : Addr) (i : Nat) : Prop where
  fp : F x
  nm : ¬ a.M x
  ex : ∃ kvs : List (Key × V), H x = some (.dK kvs) ∧ kvs.length ≤ 8 + i ∧ ∀ k ∈ B.ks, ∃ ra rs, valV kvs (Sum.inr k) = some (.ref ra) ∧ RowT H a F B ra rs k i
abbrev FndP (H : Hp) : List Addr → List Fnd → Prop := Paired fun p r => H p = some (.tup (tupF r))
abbrev DeedP (H : Hp) : List Addr → List Deed → Prop := Paired fun p r => H p = some (.tup (tupD r))
structure BkAt (C : Addr) (H : Hp) (p : Addr) (a : BA) (F : Addr → Prop) (B : Bk) : Prop where
  ob : ∃ dx, H p = some (.ins C dx (bflds a))
  hn : H a.n = some (.lst (B.ks.map V.str))
  hf : ∃ ps, H a.f = some (.lst (ps.map V.ref)) ∧ FndP H ps B.fs
  hw : H a.w = some (.dK B.gs)
  hd : ∃ ps, H a.d = some (.lst (ps.map V.ref)) ∧ DeedP H ps B.ds
  ht : ∃ ts : List Addr, H a.t = some (.lst (ts.map V.ref)) ∧ ts.length = B.ds.length + 1 ∧ ∀ (i : Nat) (x : Addr), ts[i]? = some x → TabAt H a F B x i
  fa : F a.n ∧ F a.f ∧ F a.w ∧ F a.d ∧ F a.t
  nn : ¬ a.M a.n
  fd : a.f ≠ a.d
  ft : a.f ≠ a.t
  dt : a.d ≠ a.t
  ok : B.Ok
structure Keep (H H' : Hp) (F : Addr → Prop) : Prop where
  own : ∀ b o, F b → H b = some o → H' b = some o
  tup : ∀ b xs, H b = some (.tup xs) → H' b = some (.tup xs)
  ins : ∀ b C dx fs, H b = some (.ins C dx fs) → H' b = some (.ins C dx fs)
theorem RowT.keep {H H' : Hp} {a : BA} {F : Addr → Prop} {B : Bk} {ra : Addr} {rs : List RowV} {k : Str} {i : Nat} (h : RowT H a F B ra rs k i) (g : Keep H H' F) : RowT H' a F B ra rs k i :=
  ⟨h.fp, h.nm, rowsL_mono h.rl (fun xs e => g.own _ _ h.fp e) g.tup, h.td, h.i4, h.dy⟩
theorem TabAt.keep {H H' : Hp} {a : BA} {F : Addr → Prop} {B : Bk} {x : Addr} {i : Nat} (h : TabAt H a F B x i) (g : Keep H H' F) : TabAt H' a F B x i := by
  obtain ⟨kvs, e, hl, hk⟩ := h.ex
  refine ⟨h.fp, h.nm, kvs, g.own _ _ h.fp e, hl, fun k hk' => ?_⟩
  obtain ⟨ra, rs, e1, e2⟩ := hk k hk'
  exact ⟨ra, rs, e1, e2.keep g⟩
theorem FndP.keep {H H' : Hp} {F : Addr → Prop} (g : Keep H H' F) {ps : List Addr} {fs : List Fnd} (h : FndP H ps fs) : FndP H' ps fs := Paired.mapP h fun _ _ e => g.tup _ _ e
theorem DeedP.keep {H H' : Hp} {F : Addr → Prop} (g : Keep H H' F) {ps : List Addr} {fs : List Deed} (h : DeedP H ps fs) : DeedP H' ps fs := Paired.mapP h fun _ _ e => g.tup _ _ e
theorem BkAt.keep {C : Addr} {H H' : Hp} {p : Addr} {a : BA} {F : Addr → Prop} {B : Bk} (h : BkAt C H p a F B) (g : Keep H H' F) : BkAt C H' p a F B := by
  obtain ⟨f1, f2, f3, f4, f5⟩ := h.fa
  obtain ⟨dx, e0⟩ := h.ob
  obtain ⟨ps, e1, r1⟩ := h.hf
  obtain ⟨qs, e2, r2⟩ := h.hd
  obtain ⟨ts, e3, l3, r3⟩ := h.ht
  exact ⟨⟨dx, g.ins _ _ _ _ e0⟩, g.own _ _ f1 h.hn, ⟨ps, g.own _ _ f2 e1, r1.keep g⟩, g.own _ _ f3 h.hw, ⟨qs, g.own _ _ f4 e2, r2.keep g⟩, ⟨ts, g.own _ _ f5 e3, l3, fun i x e => (r3 i x e).keep g⟩, h.fa, h.nn, h.fd, h.ft, h.dt, h.ok⟩
theorem BkAt.tab {C : Addr} {H : Hp} {p : Addr} {a : BA} {F : Addr → Prop} {B : Bk} (h : BkAt C H p a F B) {i : Nat} (hi : i ≤ B.ds.length) {k : Str} (hk : k ∈ B.ks) :
    ∃ (ts : List Addr) (x : Addr) (kvs : List (Key × V)) (ra : Addr) (rs : List RowV), H a.t = some (.lst (ts.map V.ref)) ∧ ts[i]? = some x ∧ H x = some (.dK kvs) ∧ valV kvs (Sum.inr k) = some (.ref ra) ∧ RowT H a F B ra rs k i ∧ ts.length = B.ds.length + 1 := by
  obtain ⟨ts, e3, l3, r3⟩ := h.ht
  have hx : ts[i]? = some ts[i] := List.getElem?_eq_getElem (by omega)
  obtain ⟨kvs, e, _, q⟩ := (r3 i _ hx).ex
  obtain ⟨ra, rs, e1, e2⟩ := q k hk
  exact ⟨ts, ts[i], kvs, ra, rs, e3, hx, e, e1, e2, l3⟩
theorem Fnd_get {H : Hp} {ps : List Addr} {fs : List Fnd} (h : FndP H ps fs) {i : Nat} {f : Fnd} (e : fs[i]? = some f) : ∃ q, ps[i]? = some q ∧ H q = some (.tup (tupF f)) := by
  have hl : ps.length = fs.length := Paired.length h
  have hi : i < ps.length := by rw [hl]; exact (List.getElem?_eq_some_iff.mp e).1
  have eq : ps[i]? = some ps[i] := List.getElem?_eq_getElem hi
  obtain ⟨r, e1, e2⟩ := paired_get h eq
  rw [e] at e1
  cases e1
  exact ⟨_, eq, e2⟩
theorem Deed_get {H : Hp} {ps : List Addr} {fs : List Deed} (h : DeedP H ps fs) {i : Nat} {f : Deed} (e : fs[i]? = some f) : ∃ q, ps[i]? = some q ∧ H q = some (.tup (tupD f)) := by
  have hl : ps.length = fs.length := Paired.length h
  have hi : i < ps.length := by rw [hl]; exact (List.getElem?_eq_some_iff.mp e).1
  have eq : ps[i]? = some ps[i] := List.getElem?_eq_getElem hi
  obtain ⟨r, e1, e2⟩ := paired_get h eq
  rw [e] at e1
  cases e1
  exact ⟨_, eq, e2⟩
structure BkT (C : Addr) (H : Hp) (p : Addr) (a : BA) (F : Addr → Prop) (B : Bk) : Prop where
  ob : ∃ dx, H p = some (.ins C dx (bflds a))
  hn : H a.n = some (.lst (B.ks.map V.str))
  hd : ∃ ps, H a.d = some (.lst (ps.map V.ref)) ∧ DeedP H ps B.ds
  ht : ∃ ts : List Addr, H a.t = some (.lst (ts.map V.ref)) ∧ ts.length = B.ds.length + 1 ∧ ∀ (i : Nat) (x : Addr), ts[i]? = some x → TabAt H a F B x i
theorem BkAt.toT {C : Addr} {H : Hp} {p : Addr} {a : BA} {F : Addr → Prop} {B : Bk} (h : BkAt C H p a F B) : BkT C H p a F B := ⟨h.ob, h.hn, h.hd, h.ht⟩
theorem BkT.tab {C : Addr} {H : Hp} {p : Addr} {a : BA} {F : Addr → Prop} {B : Bk} (h : BkT C H p a F B) {i : Nat} (hi : i ≤ B.ds.length) {k : Str} (hk : k ∈ B.ks) :
    ∃ (ts : List Addr) (x : Addr) (kvs : List (Key × V)) (ra : Addr) (rs : List RowV), H a.t = some (.lst (ts.map V.ref)) ∧ ts[i]? = some x ∧ H x = some (.dK kvs) ∧ valV kvs (Sum.inr k) = some (.ref ra) ∧ RowT H a F B ra rs k i ∧ ts.length = B.ds.length + 1 := by
  obtain ⟨ts, e3, l3, r3⟩ := h.ht
  have hx : ts[i]? = some ts[i] := List.getElem?_eq_getElem (by omega)
  obtain ⟨kvs, e, _, q⟩ := (r3 i _ hx).ex
  obtain ⟨ra, rs, e1, e2⟩ := q k hk
  exact ⟨ts, ts[i], kvs, ra, rs, e3, hx, e, e1, e2, l3⟩
structure KeepM (H H' : Hp) (a : BA) : Prop where
  own : ∀ b o, ¬ a.M b → H b = some o → H' b = some o
theorem KeepM.tup {H H' : Hp} {a : BA} (g : KeepM H H' a) (M : ∀ b xs, H b = some (.tup xs) → ¬ a.M b) : ∀ b xs, H b = some (.tup xs) → H' b = some (.tup xs) := fun b xs e => g.own b _ (M b xs e) e
theorem RowT.keepM {H H' : Hp} {a : BA} {F : Addr → Prop} {B : Bk} {ra : Addr} {rs : List RowV} {k : Str} {i : Nat} (h : RowT H a F B ra rs k i) (g : KeepM H H' a) (M : ∀ b xs, H b = some (.tup xs) → ¬ a.M b) : RowT H' a F B ra rs k i :=
  ⟨h.fp, h.nm, rowsL_mono h.rl (fun xs e => g.own _ _ h.nm e) (g.tup M), h.td, h.i4, h.dy⟩
theorem TabAt.keepM {H H' : Hp} {a : BA} {F : Addr → Prop} {B : Bk} {x : Addr} {i : Nat} (h : TabAt H a F B x i) (g : KeepM H H' a) (M : ∀ b xs, H b = some (.tup xs) → ¬ a.M b) : TabAt H' a F B x i := by
  obtain ⟨kvs, e, hl, hk⟩ := h.ex
  refine ⟨h.fp, h.nm, kvs, g.own _ _ h.nm e, hl, fun k hk' => ?_⟩
  obtain ⟨ra, rs, e1, e2⟩ := hk k hk'
  exact ⟨ra, rs, e1, e2.keepM g M⟩
theorem TabAt.other {H : Hp} {a : BA} {F F' : Addr → Prop} {B B' : Bk} {x : Addr} {i : Nat} (h : TabAt H a F B x i) (hF : ∀ b, F b → F' b) (ek : B'.ks = B.ks) (es : ∀ k d, B'.spk k i d = B.spk k i d) : TabAt H a F' B' x i := by
  obtain ⟨kvs, e, hl, hk⟩ := h.ex
  refine ⟨hF _ h.fp, h.nm, kvs, e, hl, fun k hk' => ?_⟩
  obtain ⟨ra, rs, e1, e2⟩ := hk k (by rw [← ek]; exact hk')
  exact ⟨ra, rs, e1, hF _ e2.fp, e2.nm, e2.rl, e2.td, e2.i4, fun x => by rw [es]; exact e2.dy x⟩
structure MC (P : Program) (w : World) (K : PySem.W.Frag) (mg : Str → Option Value) (base : Heap) (C : Addr) (m : Str) (k : Nat) (ps : List Str) (ds : List Value) (dvs : List V) (sp : Sp) (f : Addr) (fd : FuncData) : Prop where
  cl : Cls K C
  mt : Meth K C m f
  ok : FnOk P w K mg base CX0 k f fd ps sp
  bd : Binds K fd ps ds
  dv : Vals dvs ds
structure BkC (K : PySem.W.Frag) (C : Addr) : Prop where
  cl : Cls K C
  n1 : NoAttr K C "names"
  n2 : NoAttr K C "findings"
  n3 : NoAttr K C "withdrawals"
  n4 : NoAttr K C "deeds"
  n5 : NoAttr K C "tables"
theorem rows_few {rs : List RowV} (u : Strip.Rising rs) (i : In400 rs) : rs.length ≤ 400 := by
  have key : ∀ (n : Nat) (rs : List RowV) (lo : Int), rs.length = n → Strip.Rising rs → (∀ r ∈ rs, lo ≤ r.1 ∧ r.2.1 < 400) → (n : Int) ≤ max 0 (400 - lo) := by
    intro n
    induction n with
    | zero => intro rs lo _ _ _; omega
    | succ n ih =>
      intro rs lo hl u h
      cases rs with
      | nil => simp at hl
      | cons r t =>
        have hr := h r List.mem_cons_self
        have hle := u.le r List.mem_cons_self
        have := ih t (r.2.1 + 1) (by simpa using hl) ⟨(List.pairwise_cons.mp u.lt).2, fun x hx => u.le x (List.mem_cons_of_mem _ hx)⟩ fun x hx => ⟨by have : r.2.1 < x.1 := (List.pairwise_cons.mp u.lt).1 x hx; omega, (h x (List.mem_cons_of_mem _ hx)).2⟩
        omega
  have := key rs.length rs 0 rfl u fun r hr => ⟨(i r hr).1, (i r hr).2.2⟩
  omega
end L2
namespace Mine
open PySem L2
def top (i : Nat) : Stmt := PySem.Challenge.pw_unsaybook_k15_whole_nothing_is_wiped_out.main.body.getD i (.Pass ⟨0, 0, 0, 0⟩)
abbrev sJoined : Stmt := top 12
abbrev sGoesOn : Stmt := top 13
abbrev sLaid : Stmt := top 15
abbrev sAround : Stmt := top 16
theorem scal_marks : ∀ {x y : V}, MarkV x → MarkV y → scal x y = true
  | .non, .non, _, _ => rfl
  | .non, .int _, _, _ => rfl
  | .int _, .non, _, _ => rfl
  | .int _, .int _, _, _ => rfl
def spGoesOn : Sp := fun vs H Q _ => ∃ (p : Addr) (r : RowV) (first : Int) (mark : V), vs = [.ref p, .int first, mark] ∧ H p = some (.tup (tupV r)) ∧ MarkV r.2.2 ∧ MarkV mark ∧ ∀ k : Bool, (k = true ↔ (r.2.1 + 1 = first ∧ r.2.2 = mark)) → Q (.bl k) H
section
variable {P : Program} {w : World} {K : PySem.W.Frag} {mg : Str → Option Value} {base : Heap}
theorem scGoesOn : FnScope ["row", "first", "mark"] ["row", "first", "mark"] (defScope sGoesOn) := ⟨rfl, rfl, rfl, by decide +kernel, rfl, by decide +kernel, by decide +kernel⟩
theorem ok_goesOn {f : Addr} {fd : FuncData} (F : Fun K "goes_on" "goes_on" sGoesOn f fd) : FnOk P w K mg base CX0 1 f fd ["row", "first", "mark"] spGoesOn := by
  refine F.ok scGoesOn (fun vs H Q E h => ?_) (fun cdv A outer s H vs Q E hr h => ?_)
  · obtain ⟨p, r, first, mark, rfl, _⟩ := h
    rfl
  · obtain ⟨p, r, first, mark, rfl, hp, m1, m2, hq⟩ := h
    refine ⟨_, pss_one (ps_ret (pe_and (pe_cmpR op_eq (pe_op op_add (pe_ix ix_tup (pv 0) pe_int (fun _ _ => rfl)) pe_int) (pv 1) (nomark _)) (pe_one (pe_cmpR op_eq (pe_ix ix_tup (pv 0) pe_int (fun _ _ => rfl)) (pv 2) (nomark _))))), ?_⟩
    refine ⟨_, rfl, p, _, 1, .int r.2.1, rfl, rfl, SqT.of hp, rfl, _, _, rfl, rfl, _, rfl, rfl, _, rfl, ?_⟩
    refine ite2 (fun h1 => ?_) (fun h1 => ?_)
    · have h1 := of_decide_eq_true h1
      injection h1 with h1
      refine ⟨_, rfl, p, _, 2, r.2.2, rfl, rfl, SqT.of hp, rfl, _, rfl, scal_marks m1 m2, hq _ ?_⟩
      rw [decide_eq_true_iff]
      exact ⟨fun z => ⟨h1, z⟩, fun z => z.2⟩
    · refine hq _ ⟨(fun z => by cases z), fun z => ?_⟩
      exact absurd (decide_eq_true (show V.int (r.2.1 + 1) = V.int first by rw [z.1])) h1
end
abbrev lamPos : Pos := ⟨38, 46, 38, 64⟩
abbrev lamName : Str := ("joined" : Str) ++ ".<locals>." ++ "<lambda>"
def spJoined (T : Addr) : Sp := fun vs H Q _ => ∃ (a : Addr) (rs : List RowV), vs = [.ref a] ∧ LamT T lamPos lamName H ∧ RowsL H a rs ∧ Strip.Disj rs ∧ rs.length ≤ most ∧
  ∀ (b : Addr) (ss acc : List RowV) (H' : Hp), H b = none → Go T lamPos lamName H H' → RowsL H' b acc → ss.Perm rs → Strip.Joining ss acc → Q (.ref b) H'
section
variable {P : Program} {w : World} {K : PySem.W.Frag} {mg : Str → Option Value} {base : Heap}
theorem scJoined : FnScope ["rows", "strip", "first", "last", "mark"] ["rows"] (defScope sJoined) := ⟨rfl, rfl, rfl, by decide +kernel, rfl, by decide +kernel, by decide +kernel⟩
theorem ok_joined {f g c T : Addr} {fdg : FuncData} {oc kV doc pm ct : Value} {od an : Option Addr} {osl : Array (Option Value)}
    (lk : K.lookup f = some ⟨oc, od, .func (PySem.W.fnOf "joined" "joined" (defArgs sJoined) (defBody sJoined) (defScope sJoined) .none kV doc pm an (.ref c) ct), osl⟩) (hcd : PySem.W.codeIn K (.ref c) "joined" = true)
    (hC : PySem.W.CodeHd base c T) (hB : base.BuiltinsAt mg T) (hs : mg "sorted" = none) (Gg : FnOk P w K mg base CX0 1 g fdg ["row", "first", "mark"] spGoesOn) (mgg : mg "goes_on" = some (.ref g)) (kpg : PySem.W.keepIn K (.ref g) = true) (bg : Binds K fdg ["row", "first", "mark"] []) :
    FnOk P w K mg base CX0 3 f (PySem.W.fnOf "joined" "joined" (defArgs sJoined) (defBody sJoined) (defScope sJoined) .none kV doc pm an (.ref c) ct) ["rows"] (spJoined T) := by
  refine fn_of (CX := CX0) (k := 2) lk hcd scJoined (fun vs H Q E h => ?_) (fun A outer s H vs Q E hr h => ?_)
  · obtain ⟨a, rs, rfl, _⟩ := h
    rfl
  · obtain ⟨a, rs, rfl, L, ⟨ps, ha, hp⟩, hd, hlen, hq⟩ := h
    have hr1 : Room 1 _ := hr.mono (by decide)
    refine ⟨_, PSs.nox (pss_cons (ps_set (i := 1) scJoined.nd rfl (Or.inl rfl) (pe_lst pa_nil))
      (pss_cons (ps_for PassesOwn.never rfl (pi_list (pe_sort (pa := ⟨38, 53, 38, 56⟩) (p1 := ⟨38, 58, 38, 61⟩) (p2 := ⟨38, 62, 38, 63⟩) (p3 := ⟨38, 58, 38, 64⟩) (j := 0) (q := lamName) (scope := { kind := .function, names := [(PySem.Str.ofString "row", .local)], isGenerator := false, isCoroutine := false, more := [] }) hr rfl hs (pa_cons (pv 0) pa_nil) (pk_cons (pe_lam rfl hC hB rfl rfl) pk_nil) rfl rfl rfl rfl))
          (pg_tup rfl (pgs_cons (pg_name (i := 2) scJoined.nd rfl (Or.inl rfl)) (pgs_cons (pg_name (i := 3) scJoined.nd rfl (Or.inl rfl)) (pgs_cons (pg_name (i := 4) scJoined.nd rfl (Or.inl rfl)) pgs_nil))))
          (pss_one (ps_if (PW.pt (pw_and (pt_truth (pv 1) (fun _ => rfl)) (pw_and1 (pt_val (pe_call Gg hr1 rfl mgg kpg bg .nil pass0 (pa_cons (pe_ix ix_list (pv 1) (pe_un un_neg pe_int) (fun _ _ => rfl)) (pa_cons (pv 2) (pa_cons (pv 4) pa_nil))))))))
            (pss_one (ps_asg (pe_tup (pa_cons (pe_ix ix_tup (pe_ix ix_list (pv 1) (pe_un un_neg pe_int) (fun _ _ => rfl)) pe_int (fun _ _ => rfl)) (pa_cons (pv 3) (pa_cons (pv 4) pa_nil)))) (pg_sub (pv 1) (pe_un un_neg pe_int) set_list)))
            (pss_one (ps_expr (pe_bm PySem.F.plainAttrs_list PySem.F.slot_list_append PySem.F.type_list_append mt_append (pv 1) (pa_cons (pe_tup (pa_cons (pv 2) (pa_cons (pv 3) (pa_cons (pv 4) pa_nil)))) pa_nil)))))))
      (pss_one (ps_ret (pv 1))))), ?_⟩
    refine ⟨Nat.zero_le _, fun st nst => ?_⟩
    have g0 : Go T lamPos lamName H (upd H st (.lst [])) := Go.new L nst
    have L0 := g0.lam
    refine ⟨_, rfl, L0, fun H1 f c1 g1 nf hc1 hf1 => ?_⟩
    have ha1 : H1 a = some (.lst (ps.map V.ref)) := g1.lst L0 (g0.lst L ha)
    have hp1 : RowsP H1 ps rs := rowsP_mono hp fun p xs e => g1.tup L0 (g0.tup L e)
    have hst1 : H1 st = some (.lst []) := g1.lst L0 upd_same
    have hlp := rowsP_len hp
    refine ⟨a, f, c1, ps, rs.map (·.1), rfl, rfl, ha1, by omega, ?pk, hc1, hf1, fun D zs pz sz nD => ?_⟩
    case pk =>
      clear hq hd hlen ha ha1 hlp hp
      unfold RowsP at hp1
      induction hp1 with
      | nil => exact .nil
      | cons e _ ih => exact .cons ⟨_, e.1, by show 2 < 1000; decide⟩ ih
    obtain ⟨qs, ss, hq1, pss, srt, ex⟩ := rows_sorted hp1 pz sz
    rw [ex]
    have up : Strip.Rising ss := Strip.rising_of_sorted (hd.perm pss) srt
    have sD : st ≠ D := ne_of_none hst1 nD
    have gD : Go T lamPos lamName H1 (upd H1 D (.lst (qs.map V.ref))) := Go.new g1.lam nD
    have gA : Go T lamPos lamName H (upd H1 D (.lst (qs.map V.ref))) := (g0.trans g1).trans gD
    have hls := rowsP_len hq1
    refine ⟨D, rfl, ⟨_, SqL.of upd_same⟩, for_list (K := K) (a := D) (xs := qs.map V.ref) (fun i σ H2 => ∃ (acc : List RowV) (v1 v2 v3 : Option V), σ = [some (.ref a), some (.ref st), v1, v2, v3] ∧ Go T lamPos lamName H H2 ∧ H2 D = some (.lst (qs.map V.ref)) ∧
        (∀ p xs, H1 p = some (.tup xs) → H2 p = some (.tup xs)) ∧ RowsL H2 st acc ∧ Strip.Joining (ss.take i) acc)
      ⟨[], none, none, none, rfl, gA, upd_same, fun p xs e => gD.tup g1.lam e, rowsL_nil (by rw [upd_ne sD]; exact hst1), by rw [List.take_zero]; exact Strip.Joining.nil⟩ (fun i σ H2 _ hh => ?_) ?_ ?_⟩
    · obtain ⟨_, _, _, _, _, _, hD, _⟩ := hh
      exact SqL.of hD
    · rintro i y σ H2 hi ⟨acc, v1, v2, v3, rfl, g2, hD, kt, ⟨as, hst, hrs⟩, J⟩
      rw [List.getElem?_map] at hi
      cases ep : qs[i]? with
      | none => rw [ep] at hi; cases hi
      | some p =>
        rw [ep] at hi
        cases hi
        obtain ⟨r, er, ht1, hmk⟩ := rowsP_get hq1 ep
        have ht := kt p _ ht1
        have hil : i < ss.length := (List.getElem?_eq_some_iff.mp er).1
        have et : ss.take (i + 1) = ss.take i ++ [r] := by rw [List.take_add_one, er]; rfl
        have hrle : r.1 ≤ r.2.1 := up.le r (List.mem_of_getElem? er)
        have hlast : ∀ t ∈ ss.take i, t.2.1 < r.1 := fun t ht => by
          have h1 : Strip.Rising (ss.take (i + 1)) := ⟨up.lt.sublist (List.take_sublist _ _), fun t ht => up.le t (List.mem_of_mem_take ht)⟩
          rw [et] at h1
          exact h1.last t ht
        have hla := rowsP_len hrs
        have hJl := J.len
        have hsz : as.length < sizeLine := by
          rw [List.length_take] at hJl
          have : as.length ≤ most := by have := pss.length_eq; omega
          exact Nat.lt_of_le_of_lt this (by unfold most; decide)
        refine ⟨p, _, rfl, SqT.of ht, rfl, _, _, rfl, _, _, rfl, _, _, rfl, rfl, ?_⟩
        have nD2 : D ≠ st := sD.symm
        have sT : ∀ {b : Addr} {xs : List V}, H2 b = some (.tup xs) → b ≠ st := fun e => ne_of e hst (by intro z; cases z)
        have app : (∀ t, acc[acc.length - 1]? = some t → ¬ Strip.Beside t r) → ∀ p', H2 p' = none → ∃ (acc : List RowV) (v1 v2 v3 : Option V), [some (V.ref a), some (V.ref st), some (V.int r.1), some (V.int r.2.1), some r.2.2] = [some (V.ref a), some (V.ref st), v1, v2, v3] ∧
            Go T lamPos lamName H (upd (upd H2 p' (.tup (tupV r))) st (.lst (as.map V.ref ++ [V.ref p']))) ∧ upd (upd H2 p' (.tup (tupV r))) st (.lst (as.map V.ref ++ [V.ref p'])) D = some (.lst (qs.map V.ref)) ∧
            (∀ p xs, H1 p = some (.tup xs) → upd (upd H2 p' (.tup (tupV r))) st (.lst (as.map V.ref ++ [V.ref p'])) p = some (.tup xs)) ∧ RowsL (upd (upd H2 p' (.tup (tupV r))) st (.lst (as.map V.ref ++ [V.ref p']))) st acc ∧ Strip.Joining (ss.take (i + 1)) acc := fun hn p' np => by
          obtain ⟨x1, x2⟩ := push_row hst hrs np hmk
          refine ⟨acc ++ [r], _, _, _, rfl, ⟨fun b o n e => x2 b o (ne_of_none e nst) (g2.same b o n e), g2.lam.row hst np⟩, x2 D _ nD2 hD, fun b xs e => x2 b _ (sT (kt b xs e)) (kt b xs e), x1, ?_⟩
          rw [et]
          exact J.put hrle hlast hn
        have sz3 : (as.map V.ref).length < sizeLine := by rw [List.length_map]; exact hsz
        rcases List.eq_nil_or_concat acc with e0 | ⟨ini, l, e0⟩
        · -- the strip is empty yet
          subst e0
          have as0 : as = [] := List.length_eq_zero_iff.mp hla
          refine ⟨_, rfl, false, .inl ⟨_, SqL.of hst, by rw [as0]; rfl⟩, iteF (iteF ?_)⟩
          refine ⟨_, rfl, .inl ⟨rfl, _, SqL.of hst⟩, _, rfl, _, rfl, _, rfl, by show 3 ≤ sizeLine; decide, fun p' np => ?_⟩
          exact ⟨st, _, _, rfl, rfl, by rw [upd_ne (ne_of_none hst np)]; exact hst, sz3, app (fun t ht => by simp at ht) p' np⟩
        · rw [List.concat_eq_append] at e0
          subst e0
          obtain ⟨qs2, pl, rfl, hrs2, hpl, ml⟩ := rowsP_last hrs
          have eL : (ini ++ [l])[(ini ++ [l]).length - 1]? = some l := by simp
          have elm : (qs2 ++ [pl]).map V.ref = qs2.map V.ref ++ [V.ref pl] := by rw [List.map_append]; rfl
          have at1 : atI ((qs2 ++ [pl]).map V.ref) (-1) = some (V.ref pl) := by rw [elm]; exact atI_last _ _
          refine ⟨_, rfl, true, .inl ⟨_, SqL.of hst, by rw [elm]; cases qs2 <;> rfl⟩, iteT ?_⟩
          refine ⟨_, rfl, _, rfl, st, _, -1, V.ref pl, rfl, rfl, SqL.of hst, at1, _, rfl, _, rfl, pl, l, r.1, r.2.2, rfl, hpl, ml, hmk, fun kk hkk => ⟨_, rfl, ?_⟩⟩
          cases kk with
          | true =>
            have hb : Strip.Beside l r := hkk.mp rfl
            refine iteT ?_
            refine ⟨_, rfl, _, rfl, st, _, -1, V.ref pl, rfl, rfl, SqL.of hst, at1, pl, _, 0, V.int l.1, rfl, rfl, SqT.of hpl, rfl, _, rfl, _, rfl, by show 3 ≤ sizeLine; decide, fun p' np => ?_⟩
            refine ⟨_, rfl, _, rfl, st, _, -1, qs2.length, rfl, rfl, by rw [upd_ne (ne_of_none hst np)]; exact hst, by rw [List.length_map, List.length_append]; exact ixN_last _, ?_⟩
            obtain ⟨x1, x2⟩ := swap_row (r := (l.1, r.2.1, r.2.2)) hst hrs2 np hmk
            refine ⟨ini ++ [(l.1, r.2.1, r.2.2)], _, _, _, rfl, ⟨fun b o n e => x2 b o (ne_of_none e nst) (g2.same b o n e), g2.lam.row hst np⟩, x2 D _ nD2 hD, fun b xs e => x2 b _ (sT (kt b xs e)) (kt b xs e), x1, ?_⟩
            rw [et]
            exact J.grow hrle hb
          | false =>
            have hb : ¬ Strip.Beside l r := fun z => by have := hkk.mpr z; cases this
            refine iteF ?_
            refine ⟨_, rfl, .inl ⟨rfl, _, SqL.of hst⟩, _, rfl, _, rfl, _, rfl, by show 3 ≤ sizeLine; decide, fun p' np => ?_⟩
            exact ⟨st, _, _, rfl, rfl, by rw [upd_ne (ne_of_none hst np)]; exact hst, sz3, app (fun t ht => by rw [eL] at ht; cases ht; exact hb) p' np⟩
    · rintro σ H2 ⟨acc, v1, v2, v3, rfl, g2, hD, kt, hrs, J⟩
      refine ⟨_, rfl, hq st ss acc H2 nst g2 hrs pss ?_⟩
      rw [← List.take_length (l := ss)]
      have e : (qs.map V.ref).length = ss.length := by rw [List.length_map]; exact hls
      rw [e] at J
      exact J
end
abbrev Lm (T : Addr) (H : Hp) : Prop := LamT T lamPos lamName H
abbrev Gm (T : Addr) (H H' : Hp) : Prop := Go T lamPos lamName H H'
theorem pushed {T : Addr} {H H2 : Hp} {st p : Addr} {as : List Addr} {cs : List RowV} {r : RowV} (nst : H st = none) (g2 : Gm T H H2) (hst : H2 st = some (.lst (as.map V.ref))) (hrs : RowsP H2 as cs) (np : H2 p = none) (hm : MarkV r.2.2) :
    Gm T H (upd (upd H2 p (.tup (tupV r))) st (.lst (as.map V.ref ++ [V.ref p]))) ∧ RowsL (upd (upd H2 p (.tup (tupV r))) st (.lst (as.map V.ref ++ [V.ref p]))) st (cs ++ [r]) ∧
      ∀ b o, b ≠ st → H2 b = some o → upd (upd H2 p (.tup (tupV r))) st (.lst (as.map V.ref ++ [V.ref p])) b = some o := by
  obtain ⟨y1, y2⟩ := push_row hst hrs np hm
  exact ⟨⟨fun b o n e => y2 b o (ne_of_none e nst) (g2.same b o n e), g2.lam.row hst np⟩, y1, y2⟩
theorem Gm.free {T : Addr} {H H2 : Hp} (g : Gm T H H2) {b : Addr} (nb : H2 b = none) : H b = none := by
  refine g.none nb fun z => ?_
  obtain ⟨ts, et⟩ := g.lam.tbl
  rw [z, et] at nb; cases nb
structure Cal (P : Program) (w : World) (K : PySem.W.Frag) (mg : Str → Option Value) (base : Heap) (x : Str) (k : Nat) (ps : List Str) (sp : Sp) (f : Addr) (fd : FuncData) : Prop where
  ok : FnOk P w K mg base CX0 k f fd ps sp
  nm : mg x = some (.ref f)
  kp : PySem.W.keepIn K (.ref f) = true
  bd : Binds K fd ps []
structure Free (mg : Str → Option Value) : Prop where
  «len» : mg "len" = none
  «range» : mg "range" = none
  «sorted» : mg "sorted" = none
  «isinstance» : mg "isinstance" = none
  «int» : mg "int" = none
  «bool» : mg "bool" = none
  «str» : mg "str" = none
  «list» : mg "list" = none
  «tuple» : mg "tuple" = none
  «dict» : mg "dict" = none
  «set» : mg "set" = none
  «max» : mg "max" = none
  «min» : mg "min" = none
  «all» : mg "all" = none
  «enumerate» : mg "enumerate" = none
theorem joined_in {ss acc rs : List RowV} (J : Strip.Joining ss acc) (p : ss.Perm rs) (h : In400 rs) : In400 acc := fun r hr =>
  ⟨J.hi 0 (fun t ht => (h t (p.mem_iff.mp ht)).1) r hr, J.tidy.up.le r hr, J.lo 400 (fun t ht => (h t (p.mem_iff.mp ht)).2.2) r hr⟩
theorem joined_day {ss acc rs : List RowV} (J : Strip.Joining ss acc) (p : ss.Perm rs) (d : Strip.Disj rs) (n : Int) : Strip.dayOf acc n = Strip.dayOf rs n := by rw [J.day, Strip.dayOf_perm d p]
def spAround (T : Addr) : Sp := fun vs H Q _ => ∃ (a : Addr) (f l : Int) (rs : List RowV), vs = [.ref a, .int f, .int l] ∧ Lm T H ∧ RowsL H a rs ∧ Strip.Disj rs ∧ In400 rs ∧ rs.length ≤ 400 ∧ 0 ≤ f ∧ f ≤ l ∧ l < 400 ∧
  ∀ (b : Addr) (cs : List RowV) (H' : Hp), H b = none → Gm T H H' → RowsL H' b cs → Strip.DG cs (Strip.holeG rs f l) → In400 cs → cs.length ≤ rs.length + 1 → Q (.ref b) H'
section
variable {P : Program} {w : World} {K : PySem.W.Frag} {mg : Str → Option Value} {base : Heap}
theorem scAround : FnScope ["rows", "first", "last", "kept", "start", "end", "mark"] ["rows", "first", "last"] (defScope sAround) := ⟨rfl, rfl, rfl, by decide +kernel, rfl, by decide +kernel, by decide +kernel⟩
theorem ok_around {f T : Addr} {fd : FuncData} (F : Fun K "around" "around" sAround f fd) (hmin : mg "min" = none) (hmax : mg "max" = none) : FnOk P w K mg base CX0 3 f fd ["rows", "first", "last"] (spAround T) := by
  refine F.ok (k := 2) scAround (fun vs H Q E h => ?_) (fun cdv A outer s H vs Q E hr h => ?_)
  · obtain ⟨a, f, l, rs, rfl, _⟩ := h
    rfl
  · obtain ⟨a, f, l, rs, rfl, L, ⟨ps, ha, hp⟩, dj, hin, hlen, hf0, hfl, hl4, hq⟩ := h
    refine ⟨_, (pss_cons (ps_set (i := 3) scAround.nd rfl (Or.inl rfl) (pe_lst pa_nil))
      (pss_cons (ps_for PassesOwn.never rfl (pi_list (pv 0)) (pg_tup rfl (pgs_cons (pg_name (i := 4) scAround.nd rfl (Or.inl rfl)) (pgs_cons (pg_name (i := 5) scAround.nd rfl (Or.inl rfl)) (pgs_cons (pg_name (i := 6) scAround.nd rfl (Or.inl rfl)) pgs_nil)))) (pss_cons (ps_if (pt_cmpR op_lt (pv 4) (pv 1) (nomark _)) (pss_one (ps_expr (pe_bm PySem.F.plainAttrs_list PySem.F.slot_list_append PySem.F.type_list_append mt_append (pv 3) (pa_cons (pe_tup (pa_cons (pv 4) (pa_cons (pe_callB (call_min2 rfl) (by rfl) hmin PyProof.Rows.Boot.«min» (pa_cons (pv 5) (pa_cons (pe_op op_sub (pv 1) pe_int) pa_nil))) (pa_cons (pv 6) pa_nil)))) pa_nil)))) pss_nil)
      (pss_one (ps_if (pt_cmpR op_lt (pv 2) (pv 5) (nomark _)) (pss_one (ps_expr (pe_bm PySem.F.plainAttrs_list PySem.F.slot_list_append PySem.F.type_list_append mt_append (pv 3) (pa_cons (pe_tup (pa_cons (pe_callB (call_max2 rfl) (by rfl) hmax PyProof.Rows.Boot.«max» (pa_cons (pv 4) (pa_cons (pe_op op_add (pv 2) pe_int) pa_nil))) (pa_cons (pv 5) (pa_cons (pv 6) pa_nil)))) pa_nil)))) pss_nil))))
      (pss_one (ps_ret (pv 3))))), ?_⟩
    refine ⟨Nat.zero_le _, fun st nst0 => ?_⟩
    have g0 : Gm T H (upd H st (.lst [])) := Go.new L nst0
    have hlp := rowsP_len hp
    refine ⟨_, rfl, a, rfl, ⟨_, SqL.of (g0.lst L ha)⟩, for_list (K := K) (a := a) (xs := ps.map V.ref) (fun i σ H2 => ∃ (cs : List RowV) (v5 v6 v7 : Option V), σ = [some (.ref a), some (.int f), some (.int l), some (.ref st), v5, v6, v7] ∧ Gm T H H2 ∧ RowsL H2 st cs ∧
        Strip.DG cs (Strip.holeG (rs.take i) f l) ∧ In400 cs ∧ (cs.length ≤ i ∨ (cs.length ≤ i + 1 ∧ ∃ r ∈ rs.take i, Strip.Has r f)))
      ⟨[], none, none, none, rfl, g0, rowsL_nil upd_same, (Strip.hole_start (f := f) (l := l)).eq fun n => by rw [List.take_zero], (fun _ h => nomatch h), .inl (Nat.le_refl _)⟩ (fun i σ H2 _ hh => ?_) ?_ ?_⟩
    · obtain ⟨_, _, _, _, _, g, _⟩ := hh
      exact SqL.of (g.lst L ha)
    · rintro i y σ H2 hi ⟨cs, v5, v6, v7, rfl, g2, ⟨as, hst, hrs⟩, D, hi4, hln⟩
      rw [List.getElem?_map] at hi
      cases ep : ps[i]? with
      | none => rw [ep] at hi; cases hi
      | some p =>
        rw [ep] at hi
        cases hi
        obtain ⟨r, er, ht0, hmk⟩ := rowsP_get hp ep
        have ht := g2.tup L ht0
        have hil : i < rs.length := (List.getElem?_eq_some_iff.mp er).1
        obtain ⟨r0, r1, r2⟩ := hin r (List.mem_of_getElem? er)
        have hsz : cs.length ≤ i + 2 := by rcases hln with h | h <;> omega
        have old : ∀ q ∈ rs.take i, Strip.Has q f → Strip.Has r f → False := fun q hq h1 h2 => by
          have := dj.ahead er h2
          have d2 : Strip.Disj (rs.take i) := ⟨dj.ap.sublist (List.take_sublist _ _), fun t ht => dj.le t (List.mem_of_mem_take ht)⟩
          rw [Strip.dayOf_mem d2 hq h1] at this
          cases this
        refine ⟨p, _, rfl, SqT.of ht, rfl, _, _, rfl, _, _, rfl, _, _, rfl, rfl, ?_⟩
        have sz : ∀ {as2 : List Addr} {cs2 : List RowV} {H3 : Hp}, RowsP H3 as2 cs2 → cs2.length ≤ i + 3 → (as2.map V.ref).length < sizeLine := fun h1 h2 => by
          rw [List.length_map, rowsP_len h1]
          exact Nat.lt_of_lt_of_le (show _ < 900 by omega) (by decide)
        have mem : ∀ q, q ∈ rs.take i → q ∈ rs.take (i + 1) := fun q hq => by rw [Strip.take_snoc er]; exact List.mem_append_left _ hq
        have memr : r ∈ rs.take (i + 1) := by rw [Strip.take_snoc er]; exact List.mem_append_right _ (List.mem_singleton.mpr rfl)
        have noR : ∀ (cs2 : List RowV) (H3 : Hp), ¬ l < r.2.1 → Gm T H H3 → RowsL H3 st cs2 → Strip.DG cs2 (Strip.midH (rs.take i) f l r) → In400 cs2 → (cs2.length ≤ i + 1 ∨ (cs2.length ≤ i + 1 + 1 ∧ ∃ r ∈ rs.take (i + 1), Strip.Has r f)) → ∃ (cs : List RowV) (v5 v6 v7 : Option V), [some (V.ref a), some (V.int f), some (V.int l), some (V.ref st), some (V.int r.1), some (V.int r.2.1), some r.2.2] = [some (.ref a), some (.int f), some (.int l), some (.ref st), v5, v6, v7] ∧ Gm T H (H3) ∧ RowsL (H3) st cs ∧ Strip.DG cs (Strip.holeG (rs.take (i + 1)) f l) ∧ In400 cs ∧ (cs.length ≤ i + 1 ∨ (cs.length ≤ i + 1 + 1 ∧ ∃ r ∈ rs.take (i + 1), Strip.Has r f)) := fun cs2 H3 h g3 hr3 D3 i3 l3 =>
          ⟨cs2, _, _, _, rfl, g3, hr3, Strip.hole_noRight er h D3, i3, l3⟩
        have doR : ∀ (cs2 : List RowV) (as2 : List Addr) (H3 : Hp), l < r.2.1 → Gm T H H3 → H3 st = some (.lst (as2.map V.ref)) → RowsP H3 as2 cs2 → Strip.DG cs2 (Strip.midH (rs.take i) f l r) → In400 cs2 → (cs2.length ≤ i ∨ (cs2.length ≤ i + 1 ∧ ∃ r ∈ rs.take (i + 1), Strip.Has r f)) → ∀ p', H3 p' = none → ∃ (cs : List RowV) (v5 v6 v7 : Option V), [some (V.ref a), some (V.int f), some (V.int l), some (V.ref st), some (V.int r.1), some (V.int r.2.1), some r.2.2] = [some (.ref a), some (.int f), some (.int l), some (.ref st), v5, v6, v7] ∧ Gm T H (upd (upd H3 p' (.tup (tupV (if l + 1 > r.1 then l + 1 else r.1, r.2.1, r.2.2)))) st (.lst (as2.map V.ref ++ [V.ref p']))) ∧ RowsL (upd (upd H3 p' (.tup (tupV (if l + 1 > r.1 then l + 1 else r.1, r.2.1, r.2.2)))) st (.lst (as2.map V.ref ++ [V.ref p']))) st cs ∧ Strip.DG cs (Strip.holeG (rs.take (i + 1)) f l) ∧ In400 cs ∧ (cs.length ≤ i + 1 ∨ (cs.length ≤ i + 1 + 1 ∧ ∃ r ∈ rs.take (i + 1), Strip.Has r f)) := fun cs2 as2 H3 h g3 hst3 hr3 D3 i3 l3 p' np => by
          obtain ⟨D4, a1⟩ := Strip.hole_right dj er hfl h rfl D3
          have a2 : (if l + 1 > r.1 then l + 1 else r.1) ≤ r.2.1 := by split <;> omega
          obtain ⟨z1, z2, z3⟩ := pushed (r := (if l + 1 > r.1 then l + 1 else r.1, r.2.1, r.2.2)) nst0 g3 hst3 hr3 np hmk
          refine ⟨_, _, _, _, rfl, z1, z2, D4, i3.snoc (by show 0 ≤ if l + 1 > r.1 then l + 1 else r.1; omega) a2 r2, ?_⟩
          rw [List.length_append]
          simp only [List.length_singleton]
          rcases l3 with l3 | ⟨l3, q⟩
          · exact .inl (by omega)
          · exact .inr ⟨by omega, q⟩
        refine ⟨_, rfl, _, rfl, _, _, rfl, rfl, _, rfl, ite2 (fun h => ?_) (fun h => ?_)⟩
        · have h : r.1 < f := of_decide_eq_true h
          obtain ⟨D2, b1⟩ := Strip.hole_left dj er h rfl D
          have b2 : r.1 ≤ (if f - 1 < r.2.1 then f - 1 else r.2.1) := by split <;> omega
          refine ⟨_, rfl, .inl ⟨rfl, _, SqL.of hst⟩, _, rfl, _, rfl, _, rfl, _, _, rfl, rfl, _, _, rfl, _, rfl, by show 3 ≤ sizeLine; decide, fun p1 np1 => ?_⟩
          refine ⟨st, _, _, rfl, rfl, by rw [upd_ne (ne_of_none hst np1)]; exact hst, sz hrs (by omega), ?_⟩
          obtain ⟨z1, ⟨as3, z2, z2'⟩, z3⟩ := pushed (r := (r.1, if f - 1 < r.2.1 then f - 1 else r.2.1, r.2.2)) nst0 g2 hst hrs np1 hmk
          have i3 := hi4.snoc (r := (r.1, if f - 1 < r.2.1 then f - 1 else r.2.1, r.2.2)) r0 b2 (by show (if f - 1 < r.2.1 then f - 1 else r.2.1) < 400; omega)
          have l5 : (cs ++ [(r.1, if f - 1 < r.2.1 then f - 1 else r.2.1, r.2.2)]).length = cs.length + 1 := by rw [List.length_append]; rfl
          refine ⟨_, rfl, _, rfl, _, _, rfl, rfl, _, rfl, ite2 (fun h2 => ?_) (fun h2 => ?_)⟩
          · have h2 : l < r.2.1 := of_decide_eq_true h2
            refine ⟨_, rfl, .inl ⟨rfl, _, SqL.of z2⟩, _, rfl, _, rfl, _, _, rfl, rfl, _, _, rfl, _, rfl, _, rfl, by show 3 ≤ sizeLine; decide, fun p2 np2 => ?_⟩
            refine ⟨st, _, _, rfl, rfl, by rw [upd_ne (ne_of_none z2 np2)]; exact z2, sz z2' (by omega), ?_⟩
            have hf : Strip.Has r f := ⟨by omega, by omega⟩
            refine doR _ as3 _ h2 z1 z2 z2' D2 i3 ?_ p2 np2
            rw [l5]
            rcases hln with q | ⟨q, t, ht, htf⟩
            · exact .inr ⟨by omega, r, memr, hf⟩
            · exact (old t ht htf hf).elim
          · refine noR _ _ (fun z => h2 (decide_eq_true z)) z1 ⟨as3, z2, z2'⟩ D2 i3 ?_
            rw [l5]
            rcases hln with q | ⟨q, t, ht, htf⟩
            · exact .inl (by omega)
            · exact .inr ⟨by omega, t, mem t ht, htf⟩
        · have D2 := Strip.hole_noLeft (fun z => h (decide_eq_true z)) D
          refine ⟨_, rfl, _, rfl, _, _, rfl, rfl, _, rfl, ite2 (fun h2 => ?_) (fun h2 => ?_)⟩
          · have h2 : l < r.2.1 := of_decide_eq_true h2
            refine ⟨_, rfl, .inl ⟨rfl, _, SqL.of hst⟩, _, rfl, _, rfl, _, _, rfl, rfl, _, _, rfl, _, rfl, _, rfl, by show 3 ≤ sizeLine; decide, fun p2 np2 => ?_⟩
            refine ⟨st, _, _, rfl, rfl, by rw [upd_ne (ne_of_none hst np2)]; exact hst, sz hrs (by omega), ?_⟩
            refine doR cs as H2 h2 g2 hst hrs D2 hi4 ?_ p2 np2
            rcases hln with q | ⟨q, t, ht, htf⟩
            · exact .inl q
            · exact .inr ⟨by omega, t, mem t ht, htf⟩
          · refine noR cs H2 (fun z => h2 (decide_eq_true z)) g2 ⟨as, hst, hrs⟩ D2 hi4 ?_
            rcases hln with q | ⟨q, t, ht, htf⟩
            · exact .inl (by omega)
            · exact .inr ⟨by omega, t, mem t ht, htf⟩
    · rintro σ H2 ⟨cs, v5, v6, v7, rfl, g2, hrs, D, hi4, hln⟩
      have e : (ps.map V.ref).length = rs.length := by rw [List.length_map]; exact hlp
      rw [e] at D hln
      rw [List.take_length] at D
      have hsz : cs.length ≤ rs.length + 1 := by rcases hln with h | h <;> omega
      exact ⟨_, rfl, hq st cs H2 nst0 g2 hrs D hi4 hsz⟩
end
def spLaid (T : Addr) : Sp := fun vs H Q _ => ∃ (a : Addr) (f l m : Int) (rs : List RowV), vs = [.ref a, .int f, .int l, .int m] ∧ Lm T H ∧ RowsL H a rs ∧ Strip.Disj rs ∧ In400 rs ∧ rs.length ≤ 400 ∧ 0 ≤ f ∧ f ≤ l ∧ l < 400 ∧
  ∀ (b : Addr) (acc : List RowV) (H' : Hp), H b = none → Gm T H H' → RowsL H' b acc → Strip.Tidy acc → (∀ n, Strip.dayOf acc n = Strip.laidG (.int m) rs f l n) → In400 acc → acc.length ≤ rs.length + 2 → Q (.ref b) H'
section
variable {P : Program} {w : World} {K : PySem.W.Frag} {mg : Str → Option Value} {base : Heap}
theorem scLaid : FnScope ["strip", "first", "last", "mark"] ["strip", "first", "last", "mark"] (defScope sLaid) := ⟨rfl, rfl, rfl, by decide +kernel, rfl, by decide +kernel, by decide +kernel⟩
theorem ok_laid {f T f1 f2 : Addr} {fd fd1 fd2 : FuncData} (F : Fun K "laid" "laid" sLaid f fd) (CJ : Cal P w K mg base "joined" 3 ["rows"] (spJoined T) f1 fd1) (CA : Cal P w K mg base "around" 3 ["rows", "first", "last"] (spAround T) f2 fd2) : FnOk P w K mg base CX0 4 f fd ["strip", "first", "last", "mark"] (spLaid T) := by
  refine F.ok (k := 3) scLaid (fun vs H Q E h => ?_) (fun cdv A outer s H vs Q E hr h => ?_)
  · obtain ⟨a, f, l, m, rs, rfl, _⟩ := h
    rfl
  · obtain ⟨a, f, l, m, rs, rfl, L, hrs0, dj, hin, hlen, hf0, hfl, hl4, hq⟩ := h
    refine ⟨_, (pss_one (ps_ret (pe_call CJ.ok hr rfl CJ.nm CJ.kp CJ.bd .nil pass0 (pa_cons (pe_op op_cat (pe_call CA.ok hr rfl CA.nm CA.kp CA.bd .nil pass0 (pa_cons (pv 0) (pa_cons (pv 1) (pa_cons (pv 2) pa_nil)))) (pe_lst (pa_cons (pe_tup (pa_cons (pv 1) (pa_cons (pv 2) (pa_cons (pv 3) pa_nil)))) pa_nil))) pa_nil)))), ?_⟩
    refine ⟨_, rfl, _, rfl, _, rfl, a, f, l, rs, rfl, L, hrs0, dj, hin, hlen, hf0, hfl, hl4, fun b cs H1 nb g1 ⟨qs, hb, hqs⟩ D i1 l1 => ?_⟩
    refine ⟨_, rfl, _, rfl, _, rfl, by show 3 ≤ sizeLine; decide, fun p0 np0 => ?_⟩
    have g2 : Gm T H1 (upd H1 p0 (.tup (tupV (f, l, V.int m)))) := Go.new g1.lam np0
    refine ⟨by show 1 ≤ sizeLine; decide, fun st nst => ?_⟩
    have g3 : Gm T (upd H1 p0 (.tup (tupV (f, l, V.int m)))) (upd (upd H1 p0 (.tup (tupV (f, l, V.int m)))) st (.lst [V.ref p0])) := Go.new g2.lam nst
    have g23 := g2.trans g3
    have hlq := rowsP_len hqs
    refine ⟨b, st, _, _, rfl, rfl, g23.lst g1.lam hb, upd_same, ?_, fun d nd => ?_⟩
    · rw [List.length_map]
      exact Nat.le_trans (show qs.length + 1 ≤ 900 by omega) (by decide)
    have g4 : Gm T (upd (upd H1 p0 (.tup (tupV (f, l, V.int m)))) st (.lst [V.ref p0])) (upd (upd (upd H1 p0 (.tup (tupV (f, l, V.int m)))) st (.lst [V.ref p0])) d (.lst (qs.map V.ref ++ [V.ref p0]))) := Go.new g3.lam nd
    have gB := g23.trans g4
    have gA := g1.trans gB
    have DD := Strip.hole_laid (m := V.int m) hfl D
    refine ⟨d, cs ++ [(f, l, V.int m)], rfl, gA.lam, ⟨qs ++ [p0], ?_, rowsP_snoc (g4.tup g3.lam (g3.tup g2.lam upd_same)) trivial (rowsP_mono hqs fun p xs e => gB.tup g1.lam e)⟩, DD.dj, ?_, fun b2 ss acc H3 nb2 g5 hacc pss J => ?_⟩
    · rw [upd_same, List.map_append]; rfl
    · rw [List.length_append]; show cs.length + 1 ≤ most; unfold most; omega
    · have i2 : In400 (cs ++ [(f, l, V.int m)]) := i1.snoc hf0 hfl hl4
      refine hq b2 acc H3 (Gm.free gA nb2) (gA.trans g5) hacc J.tidy (fun n => ?_) (joined_in J pss i2) ?_
      · rw [joined_day J pss DD.dj, DD.day]
      · have h1 := J.len
        have h2 := pss.length_eq
        rw [List.length_append] at h2
        have h3 : cs.length + 1 = cs.length + [(f, l, V.int m)].length := rfl
        omega
end
section
variable {P : Program} {w : World} {K : PySem.W.Frag} {mg : Str → Option Value} {base : Heap}
end
end Mine
namespace Mine
open PySem L2
abbrev sCell : Stmt := top 33
abbrev sMix : Stmt := top 34
abbrev sDraw : Stmt := top 35
abbrev sWhole : Stmt := top 36
abbrev sStretch : Stmt := top 39
abbrev sIsWhole : Stmt := top 21
abbrev sIsDay : Stmt := top 22
abbrev sName : Stmt := top 23
abbrev sHas : Stmt := top 24
abbrev sAreKeys : Stmt := top 30
abbrev sCheck : Stmt := top 31
def Grow (H H' : Hp) : Prop := ∀ b o, H b = some o → H' b = some o
theorem Grow.refl {H : Hp} : Grow H H := fun _ _ e => e
theorem Grow.trans {H H1 H2 : Hp} (g : Grow H H1) (g' : Grow H1 H2) : Grow H H2 := fun b o e => g' b o (g b o e)
theorem Grow.new {H : Hp} {a : Addr} {o : HO} (n : H a = none) : Grow H (upd H a o) := fun b o e => by rw [upd_ne (ne_of_none e n)]; exact e
theorem Grow.free {H H' : Hp} (g : Grow H H') {a : Addr} (n : H' a = none) : H a = none := by
  cases e : H a with
  | none => rfl
  | some o => rw [g a o e] at n; cases n
abbrev letZ : Str := Str.ofString "abcdefghijklmnopqrstuvwxyz"
structure Con (mg : Str → Option Value) : Prop where
  letters : ∃ t, mg "LETTERS" = some (.str letZ t)
  eight : ∃ t, mg "MOST_LETTERS" = some (.int 8 t)
  lastday : ∃ t, mg "LAST_DAY" = some (.int 399 t)
  keys : ∃ t, mg "MOST_KEYS" = some (.int 8 t)
  deeds : ∃ t, mg "MOST_DEEDS" = some (.int 60 t)
  value : ∃ t, mg "MOST_VALUE" = some (.int 1000000000 t)
def spCell (K : PySem.W.Frag) : Sp := fun vs H Q _ => ∃ (a : Addr) (ns : List Int) (k : Int), vs = [.ref a, .int k] ∧ SqL K H a (ns.map V.int) ∧ 0 ≤ k ∧ ∀ n : Int, Q (.int n) H
section
variable {P : Program} {w : World} {K : PySem.W.Frag} {mg : Str → Option Value} {base : Heap}
theorem scCell : FnScope ["_law_script", "_law_k"] ["_law_script", "_law_k"] (defScope sCell) := ⟨rfl, rfl, rfl, by decide +kernel, rfl, by decide +kernel, by decide +kernel⟩
theorem ok_cell {f : Addr} {fd : FuncData} (F : Fun K "_law_cell" "_law_cell" sCell f fd) (N : Free mg) : FnOk P w K mg base CX0 1 f fd ["_law_script", "_law_k"] (spCell K) := by
  refine F.ok (k := 0) scCell (fun vs H Q E h => ?_) (fun cdv A outer s H vs Q E hr h => ?_)
  · obtain ⟨a, ns, k, rfl, _⟩ := h
    rfl
  · obtain ⟨a, ns, k, rfl, hS, hk, q⟩ := h
    have hu := hu_of hr
    refine ⟨_, (pss_cons (ps_if (pt_cmpR op_lt (pv 1) (pe_callB call_len_seq (by rfl) N.len PySem.boot_len (pa_cons (pv 0) pa_nil)) (nomark _)) (pss_one (ps_ret (pe_ix ix_list (pv 0) (pv 1) (fun _ _ => rfl)))) pss_nil)
      (pss_one (ps_ret (pe_op op_add (pe_op op_mul pe_int (pv 1)) pe_int)))), ?_⟩
    refine ⟨_, rfl, _, rfl, a, _, rfl, .inl hS, _, _, rfl, rfl, _, rfl, ?_⟩
    refine ite2 (fun hlt => ?_) (fun _ => ?_)
    · have hlt : k < ((ns.map V.int).length : Int) := of_decide_eq_true hlt
      rw [List.length_map] at hlt
      obtain ⟨j, rfl⟩ : ∃ j : Nat, k = (j : Int) := ⟨k.toNat, by omega⟩
      have hk2 : j < ns.length := by omega
      refine ⟨_, rfl, _, rfl, a, _, (j : Int), .int ns[j], rfl, rfl, hS, atI_nat ?_, q _⟩
      rw [List.getElem?_map, List.getElem?_eq_getElem hk2]
      rfl
    · exact ⟨_, rfl, _, _, rfl, rfl, .inl ⟨by decide, by decide⟩, _, _, rfl, rfl, q _⟩
end
def spMix : Sp := fun vs H Q _ => ∃ (c k : Int), vs = [.int c, .int k] ∧ 0 ≤ k ∧ k ≤ 1000 ∧ ∀ n : Int, 0 ≤ n → n < 2147483587 → Q (.int n) H
def spDraw : Sp := fun vs H Q _ => ∃ (c k m : Int), vs = [.int c, .int k, .int m] ∧ 0 ≤ k ∧ k ≤ 1000 ∧ 0 < m ∧ ∀ n : Int, 0 ≤ n → n < m → Q (.int n) H
def spWhole : Sp := fun vs H Q _ => ∃ i : Int, vs = [.int i] ∧ Q (.bl true) H
section
variable {P : Program} {w : World} {K : PySem.W.Frag} {mg : Str → Option Value} {base : Heap}
theorem scMix : FnScope ["_law_cell_here", "_law_k", "_law_number"] ["_law_cell_here", "_law_k"] (defScope sMix) := ⟨rfl, rfl, rfl, by decide +kernel, rfl, by decide +kernel, by decide +kernel⟩
theorem ok_mix {f : Addr} {fd : FuncData} (F : Fun K "_law_mix" "_law_mix" sMix f fd)  : FnOk P w K mg base CX0 1 f fd ["_law_cell_here", "_law_k"] spMix := by
  refine F.ok (k := 0) scMix (fun vs H Q E h => ?_) (fun cdv A outer s H vs Q E hr h => ?_)
  · obtain ⟨c, k, rfl, _⟩ := h
    rfl
  · obtain ⟨c, k, rfl, hk, hk2, q⟩ := h
    have hu := hu_of hr
    refine ⟨_, (pss_cons (ps_set (i := 2) scMix.nd rfl (Or.inl rfl) (pe_op op_mod (pe_op op_mul (pe_op op_add (pe_op op_mod (pv 0) pe_int) (pe_op op_mul pe_int (pv 1))) pe_int) pe_int))
      (pss_cons (ps_set (i := 2) scMix.nd rfl (Or.inl rfl) (pe_op op_mod (pe_op op_mul (pv 2) (pv 2)) pe_int))
      (pss_one (ps_ret (pe_op op_mod (pe_op op_add (pe_op op_add (pe_op op_mul (pv 2) (pv 2)) (pe_op op_mul pe_int (pv 2))) (pv 1)) pe_int))))), ?_⟩
    have small : ∀ (x : Int) {m : Int}, 0 < m → m < 2 ^ 64 → -(2 ^ 64) < x % m ∧ x % m < 2 ^ 64 := fun x m h1 h2 => by
      have a := Int.emod_nonneg x (Int.ne_of_gt h1)
      have b := Int.emod_lt_of_pos x h1
      omega
    refine ⟨_, rfl, _, _, rfl, rfl, (by show (0 : Int) < 2147483647; decide), _, rfl, _, _, rfl, rfl, .inl ⟨by decide, by decide⟩, _, _, rfl, rfl, _, _, rfl, rfl, .inr ⟨by decide, by decide⟩, _, _, rfl, rfl, (by show (0 : Int) < 2147483647; decide), ?_⟩
    refine ⟨_, rfl, _, rfl, _, _, rfl, rfl, .inl (small _ (by decide) (by decide)), _, _, rfl, rfl, (by show (0 : Int) < 2147483629; decide), ?_⟩
    refine ⟨_, rfl, _, rfl, _, _, rfl, rfl, .inl (small _ (by decide) (by decide)), _, rfl, _, _, rfl, rfl, .inl ⟨by decide, by decide⟩, _, _, rfl, rfl, _, rfl, _, _, rfl, rfl, _, _, rfl, rfl, (by show (0 : Int) < 2147483587; decide), ?_⟩
    exact q _ (Int.emod_nonneg _ (by decide)) (Int.emod_lt_of_pos _ (by decide))
end
section
variable {P : Program} {w : World} {K : PySem.W.Frag} {mg : Str → Option Value} {base : Heap}
theorem scDraw : FnScope ["_law_cell_here", "_law_k", "_law_many"] ["_law_cell_here", "_law_k", "_law_many"] (defScope sDraw) := ⟨rfl, rfl, rfl, by decide +kernel, rfl, by decide +kernel, by decide +kernel⟩
theorem ok_draw {f f1 : Addr} {fd : FuncData} (F : Fun K "_law_draw" "_law_draw" sDraw f fd) {fd1 : FuncData} (CM : Cal P w K mg base "_law_mix" 1 ["_law_cell_here", "_law_k"] spMix f1 fd1) : FnOk P w K mg base CX0 2 f fd ["_law_cell_here", "_law_k", "_law_many"] spDraw := by
  refine F.ok (k := 1) scDraw (fun vs H Q E h => ?_) (fun cdv A outer s H vs Q E hr h => ?_)
  · obtain ⟨c, k, m, rfl, _⟩ := h
    rfl
  · obtain ⟨c, k, m, rfl, hk, hk2, hm, q⟩ := h
    have hu := hu_of hr
    refine ⟨_, (pss_cons (ps_if (PW.pt (pw_and (pt_cmpR op_ge (pv 0) (pe_op op_pow pe_int pe_int) (nomark _)) (pw_and1 (pt_cmpR op_gt (pe_op op_shr (pv 0) (pe_op op_mul pe_int (pv 1))) pe_int (nomark _))))) (pss_one (ps_ret (pe_op op_mod (pe_op op_mod (pe_op op_shr (pv 0) (pe_op op_mul pe_int (pv 1))) (pe_op op_pow pe_int pe_int)) (pv 2)))) pss_nil)
      (pss_one (ps_ret (pe_op op_mod (pe_call CM.ok (hr.mono (by decide)) rfl CM.nm CM.kp CM.bd .nil pass0 (pa_cons (pv 0) (pa_cons (pv 1) pa_nil))) (pv 2))))), ?_⟩
    have hk0 : (0 : Int) ≤ 40 * k := by omega
    have fin : ∀ x : Int, 0 ≤ x % m ∧ x % m < m := fun x => ⟨Int.emod_nonneg x (by omega), Int.emod_lt_of_pos x hm⟩
    refine ⟨_, rfl, 10, 18, rfl, rfl, ⟨by decide, by decide, by decide⟩, _, _, rfl, rfl, _, rfl, ?_⟩
    refine ite2 (fun _ => ?_) (fun _ => iteF ?_)
    · refine ⟨_, rfl, _, rfl, _, _, rfl, rfl, .inl ⟨by decide, by decide⟩, _, _, rfl, rfl, hk0, _, _, rfl, rfl, _, rfl, ?_⟩
      refine ite2 (fun _ => ?_) (fun _ => ?_)
      · exact ⟨_, rfl, _, rfl, _, _, rfl, rfl, .inl ⟨by decide, by decide⟩, _, _, rfl, rfl, hk0, 2, 40, rfl, rfl, ⟨by decide, by decide, by decide⟩, _, _, rfl, rfl, (by show (0 : Int) < 2 ^ Int.toNat 40; decide), _, rfl, _, _, rfl, rfl, hm, q _ (fin _).1 (fin _).2⟩
      · exact ⟨_, rfl, _, rfl, c, k, rfl, hk, hk2, fun n _ _ => ⟨_, rfl, _, _, rfl, rfl, hm, q _ (fin _).1 (fin _).2⟩⟩
    · exact ⟨_, rfl, _, rfl, c, k, rfl, hk, hk2, fun n _ _ => ⟨_, rfl, _, _, rfl, rfl, hm, q _ (fin _).1 (fin _).2⟩⟩
end
section
variable {P : Program} {w : World} {K : PySem.W.Frag} {mg : Str → Option Value} {base : Heap}
theorem scWhole : FnScope ["_law_found"] ["_law_found"] (defScope sWhole) := ⟨rfl, rfl, rfl, by decide +kernel, rfl, by decide +kernel, by decide +kernel⟩
theorem ok_whole {f : Addr} {fd : FuncData} (F : Fun K "_law_whole" "_law_whole" sWhole f fd) (N : Free mg) : FnOk P w K mg base CX0 1 f fd ["_law_found"] spWhole := by
  refine F.ok (k := 0) scWhole (fun vs H Q E h => ?_) (fun cdv A outer s H vs Q E hr h => ?_)
  · obtain ⟨i, rfl, _⟩ := h
    rfl
  · obtain ⟨i, rfl, q⟩ := h
    have hu := hu_of hr
    refine ⟨_, (pss_one (ps_ret (pe_and (pe_callB call_isinst (by rfl) N.isinstance PyProof.Rows.Boot.«isinstance» (pa_cons (pv 0) (pa_cons (pe_bltn (v := .ty "int") (by rfl) N.int PyProof.Rows.Boot.«int» rfl) pa_nil))) (pe_one (pe_not (pe_callB call_isinst (by rfl) N.isinstance PyProof.Rows.Boot.«isinstance» (pa_cons (pv 0) (pa_cons (pe_bltn (v := .ty "bool") (by rfl) N.bool PyProof.Rows.Boot.«bool» rfl) pa_nil)))))))), ?_⟩
    exact ⟨_, rfl, .int i, "int", _, true, rfl, .int i, by rfl, _, rfl, iteT ⟨_, rfl, .int i, "bool", _, false, rfl, .int i, by rfl, _, rfl, q⟩⟩
end
theorem third_of (s : Int) {d : Int} (h0 : 0 ≤ d) (h1 : d < 3) (hs : 0 < s) : ∃ m : Int, 0 < m ∧ atI [V.int 1, V.int 5, V.int s] d = some (V.int m) := by
  rcases (show d = 0 ∨ d = 1 ∨ d = 2 by omega) with rfl | rfl | rfl
  · exact ⟨1, by decide, rfl⟩
  · exact ⟨5, by decide, rfl⟩
  · exact ⟨s, hs, rfl⟩
def spStretch : Sp := fun vs H Q _ => ∃ (c k s : Int), vs = [.int c, .int k, .int s] ∧ 0 ≤ k ∧ k ≤ 900 ∧ 0 < s ∧ s ≤ 400 ∧
  ∀ (p : Addr) (x y : Int) (H' : Hp), Grow H H' → H' p = some (.tup [.int x, .int y]) → 0 ≤ x → x ≤ y → y < 400 → Q (.ref p) H'
section
variable {P : Program} {w : World} {K : PySem.W.Frag} {mg : Str → Option Value} {base : Heap}
theorem scStretch : FnScope ["_law_cell_here", "_law_k", "_law_span", "_law_first"] ["_law_cell_here", "_law_k", "_law_span"] (defScope sStretch) := ⟨rfl, rfl, rfl, by decide +kernel, rfl, by decide +kernel, by decide +kernel⟩
theorem ok_stretch {f f1 : Addr} {fd : FuncData} (F : Fun K "_law_stretch" "_law_stretch" sStretch f fd) (N : Free mg) {fd1 : FuncData} (CD : Cal P w K mg base "_law_draw" 2 ["_law_cell_here", "_law_k", "_law_many"] spDraw f1 fd1) : FnOk P w K mg base CX0 3 f fd ["_law_cell_here", "_law_k", "_law_span"] spStretch := by
  refine F.ok (k := 2) scStretch (fun vs H Q E h => ?_) (fun cdv A outer s H vs Q E hr h => ?_)
  · obtain ⟨c, k, s, rfl, _⟩ := h
    rfl
  · obtain ⟨c, k, s, rfl, k0, k9, s0, s4, q⟩ := h
    have hu := hu_of hr
    refine ⟨_, (pss_cons (ps_if (pt_cmpR op_eq (pe_call CD.ok (hr.mono (by decide)) rfl CD.nm CD.kp CD.bd .nil pass0 (pa_cons (pv 0) (pa_cons (pv 1) (pa_cons pe_int pa_nil)))) pe_int (nomark _)) (pss_one (ps_ret (pe_tup (pa_cons pe_int (pa_cons pe_int pa_nil))))) pss_nil)
      (pss_cons (ps_set (i := 3) scStretch.nd rfl (Or.inl rfl) (pe_call CD.ok (hr.mono (by decide)) rfl CD.nm CD.kp CD.bd .nil pass0 (pa_cons (pv 0) (pa_cons (pe_op op_add (pv 1) pe_int) (pa_cons (pv 2) pa_nil)))))
      (pss_one (ps_ret (pe_tup (pa_cons (pv 3) (pa_cons (pe_callB (call_min2 rfl) (by rfl) N.min PyProof.Rows.Boot.«min» (pa_cons (pe_op op_add (pv 3) (pe_call CD.ok (hr.mono (by decide)) rfl CD.nm CD.kp CD.bd .nil pass0 (pa_cons (pv 0) (pa_cons (pe_op op_add (pv 1) pe_int) (pa_cons (pe_ix ix_list (pe_lst (pa_cons pe_int (pa_cons pe_int (pa_cons (pv 2) pa_nil)))) (pe_call CD.ok (hr.mono (by decide)) rfl CD.nm CD.kp CD.bd .nil pass0 (pa_cons (pv 0) (pa_cons (pe_op op_add (pv 1) pe_int) (pa_cons pe_int pa_nil)))) (fun _ _ => rfl)) pa_nil))))) (pa_cons (pe_op op_sub (pv 2) pe_int) pa_nil))) pa_nil))))))), ?_⟩
    refine ⟨_, rfl, _, rfl, c, k, 12, rfl, k0, by omega, by decide, fun n _ _ => ⟨rfl, _, rfl, ite2 (fun _ => ?_) (fun _ => ?_)⟩⟩
    · exact ⟨by show 2 ≤ sizeLine; decide, fun p np => q p 0 399 _ (Grow.new np) upd_same (by decide) (by decide) (by decide)⟩
    · refine ⟨_, rfl, _, rfl, _, _, rfl, rfl, _, rfl, c, _, s, rfl, by omega, by omega, s0, fun x x0 x1 => ?_⟩
      refine ⟨_, rfl, _, rfl, _, rfl, _, rfl, _, _, rfl, rfl, _, rfl, by show 3 ≤ sizeLine; decide, fun l nl => ?_⟩
      refine ⟨_, rfl, _, rfl, _, _, rfl, rfl, c, _, 3, rfl, by omega, by omega, by decide, fun d d0 d1 => ?_⟩
      obtain ⟨m, m0, em⟩ := third_of s d0 d1 s0
      refine ⟨l, _, d, V.int m, rfl, rfl, SqL.of upd_same, em, c, _, m, rfl, by omega, by omega, m0, fun y y0 y1 => ?_⟩
      refine ⟨_, _, rfl, rfl, _, rfl, _, _, rfl, rfl, _, _, rfl, by show 2 ≤ sizeLine; decide, fun p np => ?_⟩
      exact q p x _ _ ((Grow.new nl).trans (Grow.new np)) upd_same x0 (by split <;> omega) (by split <;> omega)
end
def inZ (z : Str) (c : Nat) : Bool := decide (c ∈ z.cps.toList)
def hasB (x z : Str) (m : Int) : Bool := decide (1 ≤ (x.length : Int)) && (decide ((x.length : Int) ≤ m) && x.cps.toList.all (inZ z))
def spHas : Sp := fun vs H Q _ => ∃ (x z : Str) (m : Int), vs = [.str x, .str z, .int m] ∧ x.length < sizeLine ∧ ∀ H', Grow H H' → Q (.bl (hasB x z m)) H'
theorem tcomp_in {σ : St} {H : Hp} {Q : VK} {x z : Str} (e0 : σ[0]? = some (some (.str x))) (e1 : σ[1]? = some (some (.str z))) (hl : x.length < sizeLine)
    (hq : ∀ (D : Addr) (H' : Hp), H D = none → Grow H H' → H' D = some (.lst ((x.cps.toList.map (inZ z)).map V.bl)) → Q (.ref D) H') :
    tComp (iStr (tVar 0)) [1] (fun _ H Q => Q true H) (tOp (fun x y H Q => ∃ i j, x = .str i ∧ y = .str j ∧ Q (.bl (!(Builtin.Str.occurrences j i 0 j.length 1).isEmpty)) H) (tVar 0) (tVar 1)) σ H Q := by
  have es : subσ [1] σ = [some (.str z)] := by
    show [(σ[1]?).join] = _
    rw [e1]; rfl
  refine ⟨_, e0, x, rfl, fun D nD => comp_str (x := x) (sub := [1]) (tt := fun _ H Q => Q true H) (te := tOp (fun x y H Q => ∃ i j, x = .str i ∧ y = .str j ∧ Q (.bl (!(Builtin.Str.occurrences j i 0 j.length 1).isEmpty)) H) (tVar 0) (tVar 1)) (Q := Q) (σ := σ)
    (fun i ys H2 => ys = ((x.cps.toList.take i).map (inZ z)).map V.bl ∧ H2 = upd H D (.lst ys)) ⟨rfl, rfl⟩ (fun i c ys H2 hi hh => ?_) fun ys H2 hh => ?_⟩
  · obtain ⟨rfl, rfl⟩ := hh
    rw [es]
    show (if true = true then _ else _)
    rw [if_pos rfl]
    have hi' : x.cps.toList[i]? = some c := by simpa using hi
    have hil : i < x.cps.size := (Array.getElem?_eq_some_iff.mp hi).1
    refine ⟨_, rfl, _, rfl, _, _, rfl, rfl, upd_same, ?_, ?_, ?_⟩
    · rw [List.length_map, List.length_map, List.length_take]
      have : x.length < sizeLine := hl
      have e : x.cps.toList.length = x.length := by simp [Str.length]
      rw [e]
      omega
    · rw [List.take_add_one, hi', List.map_append, List.map_append, PySem.StrLaws.found_one]
      rfl
    · rw [upd_upd]
  · obtain ⟨rfl, rfl⟩ := hh
    refine hq D _ nD (Grow.new nD) ?_
    rw [upd_same, List.take_of_length_le (by simp)]
section
variable {P : Program} {w : World} {K : PySem.W.Frag} {mg : Str → Option Value} {base : Heap}
theorem scHas : FnScope ["text", "signs", "most"] ["text", "signs", "most"] (defScope sHas) := ⟨rfl, rfl, rfl, by decide +kernel, rfl, by decide +kernel, by decide +kernel⟩
theorem ok_has {f : Addr} {fd : FuncData} (F : Fun K "has_only" "has_only" sHas f fd) (N : Free mg) : FnOk P w K mg base CX0 1 f fd ["text", "signs", "most"] spHas := by
  refine F.ok (k := 0) scHas (fun vs H Q E h => ?_) (fun cdv A outer s H vs Q E hr h => ?_)
  · obtain ⟨x, z, m, rfl, _⟩ := h
    rfl
  · obtain ⟨x, z, m, rfl, hl, hq⟩ := h
    refine ⟨_, pss_one (ps_ret (pe_and (pe_chain op_le op_le pe_int (pe_callB call_len_str (by rfl) N.len PySem.boot_len (pa_cons (pv 0) pa_nil)) (pv 2))
      (pe_one (pe_callB (call_allB rfl) (by rfl) N.all PyProof.Rows.Boot.«all» (pa_cons (pe_comp1 (y := "signs") (i := 1) rfl (pi_str (pv 0)) rfl rfl (by decide) (by decide) rfl (by decide) rfl (.inr (.inl rfl)) (by show (some NameKind.cell) ≠ some NameKind.local; decide) (.inl rfl) rfl (fun C fp s H => pts_nil) (fun C fp s H => pe_cmpR op_in_str (pv 0) (pv 1) (by with_unfolding_all rfl))) pa_nil))))), ?_⟩
    have gr : ∀ {b}, hasB x z m = b → Q (.bl b) H := fun {b} e => by rw [← e]; exact hq H Grow.refl
    refine ⟨_, rfl, x, rfl, Nat.le_of_lt hl, _, _, rfl, rfl, _, rfl, ite2 (fun h1 => ?_) fun h1 => ⟨_, rfl, iteF (gr ?_)⟩⟩
    · refine ⟨_, rfl, _, _, rfl, rfl, _, rfl, ite2 (fun h2 => ?_) fun h2 => gr ?_⟩
      · unfold tCB tCons
        refine tcomp_in rfl rfl hl fun D H' nD g hD => ⟨D, _, rfl, SqL.of hD, ?_⟩
        have e : hasB x z m = (x.cps.toList.map (inZ z)).all id := by
          unfold hasB
          rw [h1, h2, Bool.true_and, Bool.true_and, List.all_map]; rfl
        rw [← e]
        exact hq H' g
      · unfold hasB
        rw [Bool.eq_false_iff.mpr h2, Bool.false_and, Bool.and_false]
    · unfold hasB
      rw [Bool.eq_false_iff.mpr h1, Bool.false_and]
end
def spIsWhole : Sp := fun vs H Q _ => ∃ (i lo hi : Int), vs = [.int i, .int lo, .int hi] ∧ Q (.bl (decide (lo ≤ i) && decide (i ≤ hi))) H
def spIsDay : Sp := fun vs H Q _ => ∃ (i : Int), vs = [.int i] ∧ Q (.bl (decide (0 ≤ i) && decide (i ≤ 399))) H
def spName : Sp := fun vs H Q _ => ∃ x : Str, vs = [.str x] ∧ x.length < sizeLine ∧ ∀ H', Grow H H' → Q (.bl (hasB x letZ 8)) H'
def spCheck : Sp := fun vs H Q _ => ∃ (f l : Int), vs = [.int f, .int l] ∧ 0 ≤ f ∧ f ≤ l ∧ l < 400 ∧ Q .non H
section
variable {P : Program} {w : World} {K : PySem.W.Frag} {mg : Str → Option Value} {base : Heap}
theorem scIsWhole : FnScope ["thing", "low", "high"] ["thing", "low", "high"] (defScope sIsWhole) := ⟨rfl, rfl, rfl, by decide +kernel, rfl, by decide +kernel, by decide +kernel⟩
theorem ok_isWhole {f : Addr} {fd : FuncData} (F : Fun K "is_whole" "is_whole" sIsWhole f fd) (N : Free mg) : FnOk P w K mg base CX0 1 f fd ["thing", "low", "high"] spIsWhole := by
  refine F.ok (k := 0) scIsWhole (fun vs H Q E h => ?_) (fun cdv A outer s H vs Q E hr h => ?_)
  · obtain ⟨i, lo, hi, rfl, _⟩ := h
    rfl
  · obtain ⟨i, lo, hi, rfl, q⟩ := h
    have hu := hu_of hr
    refine ⟨_, (pss_one (ps_ret (pe_and (pe_callB call_isinst (by rfl) N.isinstance PyProof.Rows.Boot.«isinstance» (pa_cons (pv 0) (pa_cons (pe_bltn (v := .ty "int") (by rfl) N.int PyProof.Rows.Boot.«int» rfl) pa_nil))) (pe_and (pe_not (pe_callB call_isinst (by rfl) N.isinstance PyProof.Rows.Boot.«isinstance» (pa_cons (pv 0) (pa_cons (pe_bltn (v := .ty "bool") (by rfl) N.bool PyProof.Rows.Boot.«bool» rfl) pa_nil)))) (pe_one (pe_chain op_le op_le (pv 1) (pv 0) (pv 2))))))), ?_⟩
    refine ⟨_, rfl, .int i, "int", _, true, rfl, .int i, by rfl, _, rfl, iteT ⟨_, rfl, .int i, "bool", _, false, rfl, .int i, by rfl, _, rfl, _, rfl, iteT ?_⟩⟩
    refine ⟨_, rfl, _, rfl, _, _, rfl, rfl, _, rfl, ite2 (fun h1 => ⟨_, rfl, _, _, rfl, rfl, ?_⟩) fun h1 => ?_⟩
    · rw [h1, Bool.true_and] at q
      exact q
    · rw [Bool.eq_false_iff.mpr h1, Bool.false_and] at q
      exact q
end
section
variable {P : Program} {w : World} {K : PySem.W.Frag} {mg : Str → Option Value} {base : Heap}
theorem scIsDay : FnScope ["thing"] ["thing"] (defScope sIsDay) := ⟨rfl, rfl, rfl, by decide +kernel, rfl, by decide +kernel, by decide +kernel⟩
theorem ok_isDay {f f1 : Addr} {fd : FuncData} (F : Fun K "is_day" "is_day" sIsDay f fd) (N : Con mg) {fd1 : FuncData} (CW : Cal P w K mg base "is_whole" 1 ["thing", "low", "high"] spIsWhole f1 fd1) : FnOk P w K mg base CX0 2 f fd ["thing"] spIsDay := by
  obtain ⟨t1, c1⟩ := N.lastday
  refine F.ok (k := 1) scIsDay (fun vs H Q E h => ?_) (fun cdv A outer s H vs Q E hr h => ?_)
  · obtain ⟨i, rfl, _⟩ := h
    rfl
  · obtain ⟨i, rfl, q⟩ := h
    have hu := hu_of hr
    refine ⟨_, (pss_one (ps_ret (pe_call CW.ok (hr.mono (by decide)) rfl CW.nm CW.kp CW.bd .nil pass0 (pa_cons (pv 0) (pa_cons pe_int (pa_cons (pe_glob (v := .int 399) (by rfl) c1 ⟨_, rfl⟩) pa_nil)))))), ?_⟩
    exact ⟨_, rfl, i, 0, 399, rfl, q⟩
end
section
variable {P : Program} {w : World} {K : PySem.W.Frag} {mg : Str → Option Value} {base : Heap}
theorem scName : FnScope ["thing"] ["thing"] (defScope sName) := ⟨rfl, rfl, rfl, by decide +kernel, rfl, by decide +kernel, by decide +kernel⟩
theorem ok_name {f f1 : Addr} {fd : FuncData} (F : Fun K "is_name" "is_name" sName f fd) (N : Free mg) (C : Con mg) {fd1 : FuncData} (CH : Cal P w K mg base "has_only" 1 ["text", "signs", "most"] spHas f1 fd1) : FnOk P w K mg base CX0 2 f fd ["thing"] spName := by
  obtain ⟨t1, c1⟩ := C.letters
  obtain ⟨t2, c2⟩ := C.eight
  refine F.ok (k := 1) scName (fun vs H Q E h => ?_) (fun cdv A outer s H vs Q E hr h => ?_)
  · obtain ⟨x, rfl, _⟩ := h
    rfl
  · obtain ⟨x, rfl, hl, hq⟩ := h
    have hu := hu_of hr
    refine ⟨_, (pss_one (ps_ret (pe_and (pe_callB call_isinst (by rfl) N.isinstance PyProof.Rows.Boot.«isinstance» (pa_cons (pv 0) (pa_cons (pe_bltn (v := .ty "str") (by rfl) N.str PyProof.Rows.Boot.«str» rfl) pa_nil))) (pe_one (pe_call CH.ok (hr.mono (by decide)) rfl CH.nm CH.kp CH.bd .nil pass0 (pa_cons (pv 0) (pa_cons (pe_glob (v := .str letZ) (by rfl) c1 ⟨_, rfl⟩) (pa_cons (pe_glob (v := .int 8) (by rfl) c2 ⟨_, rfl⟩) pa_nil)))))))), ?_⟩
    exact ⟨_, rfl, .str x, "str", _, true, rfl, .str x, by rfl, _, rfl, iteT ⟨_, rfl, x, letZ, 8, rfl, hl, hq⟩⟩
end
section
variable {P : Program} {w : World} {K : PySem.W.Frag} {mg : Str → Option Value} {base : Heap}
theorem scCheck : FnScope ["first", "last"] ["first", "last"] (defScope sCheck) := ⟨rfl, rfl, rfl, by decide +kernel, rfl, by decide +kernel, by decide +kernel⟩
theorem ok_check {f f1 f2 : Addr} {fd : FuncData} (F : Fun K "check_stretch" "check_stretch" sCheck f fd) (N : Con mg) {fd1 fd2 : FuncData} (CW : Cal P w K mg base "is_whole" 1 ["thing", "low", "high"] spIsWhole f1 fd1) (CY : Cal P w K mg base "is_day" 2 ["thing"] spIsDay f2 fd2) : FnOk P w K mg base CX0 3 f fd ["first", "last"] spCheck := by
  obtain ⟨t1, c1⟩ := N.lastday
  refine F.ok (k := 2) scCheck (fun vs H Q E h => ?_) (fun cdv A outer s H vs Q E hr h => ?_)
  · obtain ⟨f, l, rfl, _⟩ := h
    rfl
  · obtain ⟨f, l, rfl, h0, h1, h2, q⟩ := h
    have hu := hu_of hr
    refine ⟨_, (pss_cons (ps_if (pt_not (pt_val (pe_call CY.ok (hr.mono (by decide)) rfl CY.nm CY.kp CY.bd .nil pass0 (pa_cons (pv 0) pa_nil)))) (pss_one ps_never) pss_nil)
      (pss_one (ps_if (pt_not (pt_val (pe_call CW.ok (hr.mono (by decide)) rfl CW.nm CW.kp CW.bd .nil pass0 (pa_cons (pv 1) (pa_cons (pv 0) (pa_cons (pe_glob (v := .int 399) (by rfl) c1 ⟨_, rfl⟩) pa_nil)))))) (pss_one ps_never) pss_nil))), ?_⟩
    refine ⟨_, rfl, f, rfl, _, rfl, ?_⟩
    rw [show (decide (0 ≤ f) && decide (f ≤ 399)) = true from by rw [decide_eq_true h0, decide_eq_true (show f ≤ 399 by omega)]; rfl]
    refine iteF ⟨_, rfl, _, rfl, l, f, 399, rfl, _, rfl, ?_⟩
    rw [show (decide (f ≤ l) && decide (l ≤ 399)) = true from by rw [decide_eq_true h1, decide_eq_true (show l ≤ 399 by omega)]; rfl]
    exact iteF q
end
end Mine
namespace L2
open PySem PySem.Spec PyProof.Rows
theorem paired_snoc {α β : Type} {F : α → β → Prop} : ∀ {xs : List α} {ys : List β} {x : α} {y : β}, Paired F xs ys → F x y → Paired F (xs ++ [x]) (ys ++ [y])
  | _, _, _, _, .nil, h => .cons h .nil
  | _, _, _, _, .cons a t, h => .cons a (paired_snoc t h)
section
variable {D : Ends} {σ : St} {H : Hp} {Q : VK}
theorem rd_next (h : D.nx σ H) : tNext D σ H := h
theorem rd_ret {te : TE} (h : te σ H D.rt) : tRet te D σ H := h
theorem rd_expr {te : TE} (h : te σ H fun _ H1 => D.nx σ H1) : tDrop te D σ H := h
theorem rd_seq {t u : TS} (h : t { D with nx := u D } σ H) : tSeq t u D σ H := h
theorem rd_andV {ta tb : TE} (h : ta σ H fun x H1 => ∃ c, x = .bl c ∧ if c = true then tb σ H1 Q else Q (.bl false) H1) : tAndV ta tb σ H Q := h
theorem rd_cb {r : List V → Hp → VK → Prop} {t : TA} (h : t σ H fun vs H1 => r vs H1 Q) : tCB r t σ H Q := h
theorem rd_cons {ta : TE} {tr : TA} {R : List V → Hp → Prop} (h : ta σ H fun x H1 => tr σ H1 fun xs H2 => R (x :: xs) H2) : tCons ta tr σ H R := h
theorem rd_op {r : R2} {ta tb : TE} (h : ta σ H fun x H1 => tb σ H1 fun y H2 => r x y H2 Q) : tOp r ta tb σ H Q := h
theorem rd_fld {K : PySem.W.Frag} {ta tv : TE} {f : Str} (h : tv σ H fun y H1 => ta σ H1 fun x H2 => ∃ a C dx fs, x = .ref a ∧ H2 a = some (.ins C dx fs) ∧ Cls K C ∧ NoAttr K C f ∧ fs.length < 1000 ∧ D.nx σ (upd H2 a (.ins C dx (putF f y fs)))) : sFld K ta tv f D σ H := h
theorem rd_lst {t : TA} (h : t σ H fun xs H1 => xs.length ≤ sizeLine ∧ ∀ p, H1 p = none → Q (.ref p) (upd H1 p (.lst xs))) : tLst t σ H Q := h
theorem rd_bm {K : PySem.W.Frag} {T : String} {r : V → List V → Hp → VK → Prop} {to : TE} {t : TA} (h : to σ H fun x H1 => tyV K T x H1 ∧ t σ H1 fun xs H2 => r x xs H2 Q) : tBM K T r to t σ H Q := h
theorem rd_asg {te : TE} {g : TG} (h : te σ H fun x H1 => g x σ H1 D.nx) : tAsg te g D σ H := h
end
end L2
namespace L2
open PySem PySem.Spec PyProof.Rows
theorem len_cps (x : Str) : x.length = x.cps.toList.length := by simp [Str.length]
theorem sl_to {x : Str} {n : Nat} (h : n ≤ x.length) : (Txt.slice x none (some (n : Int))).cps.toList = x.cps.toList.take n := by
  rw [eq_of_beq (slice_to_min_closes (x := x) (n := (n : Int)) (m := if (x.length : Int) < n then (x.length : Int) else n) (by omega) rfl), if_neg (by omega)]
  show (x.cps.toList.drop 0).take ((n : Int) - 0).toNat = _
  rw [List.drop_zero, Int.sub_zero, Int.toNat_natCast]
theorem sl_from {x : Str} {n : Nat} (h : n ≤ x.length) : (Txt.slice x (some (n : Int)) none).cps.toList = x.cps.toList.drop n := by
  rw [slice_from_eq (x := x) (i := (n : Int)) (b := x.length) (by omega) (by omega) rfl]
  show (x.cps.toList.drop (n : Int).toNat).take _ = _
  rw [Int.toNat_natCast, List.take_of_length_le]
  rw [List.length_drop, ← len_cps]
  omega
theorem app_cps (x y : Str) : (x ++ y).cps.toList = x.cps.toList ++ y.cps.toList := by
  show (x.cps ++ y.cps).toList = _
  rw [Array.toList_append]
theorem join_nil (zs : List Str) : (Str.join (Str.ofString "") zs).cps.toList = (zs.map fun z => z.cps.toList).flatten := by
  induction zs with
  | nil => rfl
  | cons z zs ih =>
    cases zs with
    | nil => simp [Str.join]
    | cons y ys =>
      show (z ++ Str.ofString "" ++ Str.join (Str.ofString "") (y :: ys)).cps.toList = _
      rw [app_cps, app_cps, ih, List.map_cons (l := y :: ys), List.flatten_cons, show (Str.ofString "").cps.toList = [] from rfl, List.append_nil]
theorem join0 (zs : List Str) : (Txt.join (Str.ofString "") zs).cps.toList = (zs.map fun z => z.cps.toList).flatten := by
  show (Builtin.Str.glued (Str.ofString "") zs).cps.toList = _
  rw [StrLaws.glued_eq_join]
  exact join_nil zs
theorem str_ext {x y : Str} (h : x.cps.toList = y.cps.toList) : x = y := by
  cases x; cases y
  congr 1
  exact Array.toList_inj.mp h
def keyT (b : List Nat) (at_ s k : Nat) : List Nat := b.take at_ ++ (s :: b.drop at_) ++ List.replicate (k % 3) 122
theorem keyT_at {b : List Nat} {at_ s k : Nat} (h : at_ ≤ b.length) : (keyT b at_ s k)[at_]? = some s := by
  unfold keyT
  rw [List.append_assoc, List.getElem?_append_right (by rw [List.length_take]; omega), List.length_take, Nat.min_eq_left h, Nat.sub_self]
  rfl
theorem keyT_len {b : List Nat} {at_ s k : Nat} (h : at_ ≤ b.length) : (keyT b at_ s k).length = b.length + 1 + k % 3 := by
  unfold keyT
  rw [List.length_append, List.length_append, List.length_cons, List.length_take, List.length_drop, List.length_replicate]
  omega
theorem keyT_mem {b : List Nat} {at_ s k : Nat} {P : Nat → Prop} (hb : ∀ c ∈ b, P c) (hs : P s) (hz : P 122) : ∀ c ∈ keyT b at_ s k, P c := fun c hc => by
  unfold keyT at hc
  rcases List.mem_append.mp hc with hc | hc
  · rcases List.mem_append.mp hc with hc | hc
    · exact hb c (List.mem_of_mem_take hc)
    · rcases List.mem_cons.mp hc with hc | hc
      · rw [hc]; exact hs
      · exact hb c (List.mem_of_mem_drop hc)
  · rw [(List.mem_replicate.mp hc).2]; exact hz
theorem step_ne {f s k k' : Int} (hs : s = 1 ∨ s = 5 ∨ s = 7 ∨ s = 9 ∨ s = 25) (h0 : 0 ≤ k) (h1 : k < 8) (h2 : 0 ≤ k') (h3 : k' < 8) (e : (f + s * k) % 26 = (f + s * k') % 26) : k = k' := by
  rcases hs with rfl | rfl | rfl | rfl | rfl <;> omega
theorem singles {P : Nat → Prop} : ∀ {ys : List V}, (∀ (i : Nat) (y : V), ys[i]? = some y → ∃ d : Nat, P d ∧ y = V.str ⟨#[d]⟩) → ∃ ds : List Nat, ys = (ds.map fun d => (⟨#[d]⟩ : Str)).map V.str ∧ (∀ d ∈ ds, P d) ∧ ds.length = ys.length
  | [], _ => ⟨[], rfl, (fun _ h => nomatch h), rfl⟩
  | y :: ys, h => by
    obtain ⟨d, h1, h2⟩ := h 0 y rfl
    obtain ⟨ds, e1, e2, e3⟩ := singles (ys := ys) fun i z e => h (i + 1) z (by simpa using e)
    refine ⟨d :: ds, by rw [h2, List.map_cons, List.map_cons, ← e1], fun x hx => ?_, by rw [List.length_cons, List.length_cons, e3]⟩
    rcases List.mem_cons.mp hx with hx | hx
    · rw [hx]; exact h1
    · exact e2 x hx
theorem flat_singles : ∀ ds : List Nat, ((ds.map fun d => (⟨#[d]⟩ : Str)).map fun z => z.cps.toList).flatten = ds
  | [] => rfl
  | d :: ds => by rw [List.map_cons, List.map_cons, List.flatten_cons, flat_singles ds]; rfl
theorem sum_singles : ∀ ds : List Nat, ((ds.map fun d => (⟨#[d]⟩ : Str)).map (·.length)).sum = ds.length
  | [] => rfl
  | d :: ds => by rw [List.map_cons, List.map_cons, List.sum_cons, sum_singles ds, List.length_cons]; show 1 + _ = _; omega
theorem listed {α β : Type} {f : Nat → β} {g : β → α} {n : Nat} {ys : List α} (hl : ys.length = n) (h : ∀ (i : Nat) (y : α), ys[i]? = some y → y = g (f i)) : ys = ((List.range n).map f).map g := by
  apply List.ext_getElem?
  intro i
  rw [List.map_map, List.getElem?_map]
  by_cases hi : i < n
  · rw [List.getElem?_range hi]
    have e := List.getElem?_eq_getElem (l := ys) (i := i) (by omega)
    rw [e, h i _ e]
    rfl
  · rw [List.getElem?_eq_none (by omega), List.getElem?_eq_none (by rw [List.length_range]; omega)]
    rfl
end L2
namespace L2
open PySem PySem.Spec PyProof.Rows
def CompB (J : It) (sub : List Nat) (tt : TT) (te : TE) (σ : St) (Q : VK) (H1 : Hp) : Prop := ∀ D, H1 D = none → ∃ W : Nat → Nat → List V → Hp → Prop, (∃ m, W 0 m [] (upd H1 D (.lst []))) ∧ ∀ i m ys H2, W i m ys H2 →
  (J.stop i H2 ∧ Q (.ref D) H2) ∨ (J.go i H2 ∧ ∃ N : List V → Hp → Prop, (∀ ys' H', N ys' H' → ∃ m', m' < m ∧ W (i + 1) m' ys' H') ∧ ∀ v H3, J.yld i H2 v H3 → tt (some v :: subσ sub σ) H3 fun b H4 => if b = true then
    te (some v :: subσ sub σ) H4 fun y H5 => H5 D = some (.lst ys) ∧ ys.length < sizeLine ∧ N (ys ++ [y]) (upd H5 D (.lst (ys ++ [y])))
    else N ys H4)
def CompB2 (K : PySem.W.Frag) (J : It) (sub : List Nat) (tt : TT) (te : TE) (σ : St) (Q : VK) (H1 : Hp) : Prop := ∀ D, H1 D = none → ∃ W : Nat → Nat → List V → Hp → Prop, (∃ m, W 0 m [] (upd H1 D (.lst []))) ∧ ∀ i m ys H2, W i m ys H2 →
  (J.stop i H2 ∧ Q (.ref D) H2) ∨ (J.go i H2 ∧ ∃ N : List V → Hp → Prop, (∀ ys' H', N ys' H' → ∃ m', m' < m ∧ W (i + 1) m' ys' H') ∧ ∀ v H3, J.yld i H2 v H3 → ∃ (t : Addr) (a b : V), v = .ref t ∧ SqT K H3 t [a, b] ∧ tt (some a :: some b :: subσ sub σ) H3 fun c H4 => if c = true then
    te (some a :: some b :: subσ sub σ) H4 fun y H5 => H5 D = some (.lst ys) ∧ ys.length < sizeLine ∧ N (ys ++ [y]) (upd H5 D (.lst (ys ++ [y])))
    else N ys H4)
section
variable {wi : TI} {sub : List Nat} {tt : TT} {te : TE} {σ : St} {H : Hp} {Q : VK} {K : PySem.W.Frag}
theorem rd_comp (h : wi σ H fun J H1 => CompB J sub tt te σ Q H1) : tComp wi sub tt te σ H Q := h
theorem rd_comp2 (h : wi σ H fun J H1 => CompB2 K J sub tt te σ Q H1) : tComp2 K wi sub tt te σ H Q := h
theorem compB_range {n : Nat} (P : Nat → V → Prop) (hn : n ≤ 1000) (hte : ∀ (i : Nat) (H2 : Hp) (R : VK), i < n → (∀ y, P i y → R y H2) → te (some (.int (0 + (i : Int))) :: subσ sub σ) H2 R)
    (hq : ∀ (D : Addr) (ys : List V), H D = none → ys.length = n → (∀ (i : Nat) (y : V), ys[i]? = some y → P i y) → Q (.ref D) (upd H D (.lst ys))) : CompB (Itr 0 n) sub (fun _ H Q => Q true H) te σ Q H := by
  intro D nD
  refine comp_range (lo := 0) (n := n) (sub := sub) (tt := fun _ H Q => Q true H) (te := te) (Q := Q) (σ := σ) (fun i ys H2 => ys.length = i ∧ (∀ (j : Nat) (y : V), ys[j]? = some y → P j y) ∧ H2 = upd H D (.lst ys)) ⟨rfl, (fun j y e => by simp at e), rfl⟩ (fun i ys H2 hi hh => ?_) fun ys H2 hh => ?_
  · obtain ⟨e1, e2, rfl⟩ := hh
    refine iteT (hte i _ _ hi fun y hy => ⟨upd_same, small1000 (by omega), by rw [List.length_append, e1]; rfl, fun j z ez => ?_, upd_upd⟩)
    by_cases hj : j < ys.length
    · rw [List.getElem?_append_left hj] at ez
      exact e2 j z ez
    · have hj2 : j = i := by
        have := (List.getElem?_eq_some_iff.mp ez).1
        rw [List.length_append] at this
        have : j < ys.length + 1 := this
        omega
      rw [List.getElem?_append_right (by omega), hj2, e1, Nat.sub_self] at ez
      cases (show some y = some z from ez)
      rw [hj2]
      exact hy
  · obtain ⟨e1, e2, rfl⟩ := hh
    exact hq D ys nD e1 e2
theorem compB_filter {n : Nat} {c : Nat → Bool} (hn : n ≤ 1000) (htt : ∀ (i : Nat) (H2 : Hp) (R : Bool → Hp → Prop), i < n → (∀ b o, H b = some o → H2 b = some o) → R (c i) H2 → tt (some (.int (0 + (i : Int))) :: subσ sub σ) H2 R)
    (hte : ∀ (i : Nat) (H2 : Hp) (R : VK), i < n → R (.int (i : Int)) H2 → te (some (.int (0 + (i : Int))) :: subσ sub σ) H2 R)
    (hq : ∀ (D : Addr), H D = none → Q (.ref D) (upd H D (.lst (((List.range n).filter c).map fun i : Nat => V.int (i : Int))))) : CompB (Itr 0 n) sub tt te σ Q H := by
  intro D nD
  refine comp_range (lo := 0) (n := n) (sub := sub) (tt := tt) (te := te) (Q := Q) (σ := σ) (fun i ys H2 => ys = ((List.range i).filter c).map (fun i : Nat => V.int (i : Int)) ∧ H2 = upd H D (.lst ys)) ⟨rfl, rfl⟩ (fun i ys H2 hi hh => ?_) fun ys H2 hh => ?_
  · obtain ⟨rfl, rfl⟩ := hh
    refine htt i _ _ hi (fun b o e => by rw [upd_ne (ne_of_none e nD)]; exact e) ?_
    have lf : (((List.range i).filter c).map fun i : Nat => V.int (i : Int)).length ≤ i := by
      rw [List.length_map]
      have := List.length_filter_le c (List.range i)
      rw [List.length_range] at this
      exact this
    cases hc : c i with
    | true =>
      refine iteT (hte i _ _ hi ⟨upd_same, small1000 (by omega), ?_, upd_upd⟩)
      rw [List.range_succ, List.filter_append, List.map_append, List.filter_cons, hc]; rfl
    | false =>
      refine iteF ⟨?_, ?_⟩
      · rw [List.range_succ, List.filter_append, List.map_append, List.filter_cons, hc]; simp
      · rfl
  · obtain ⟨rfl, rfl⟩ := hh
    exact hq D nD
theorem compB_enum {a : Addr} {xs : List V} (P : Nat → V → Prop) (ha : H a = some (.lst xs)) (hn : xs.length ≤ 1000) (hte : ∀ (i : Nat) (x : V) (H2 : Hp) (R : VK), xs[i]? = some x → (∀ y, P i y → R y H2) → te (some (.int (i : Int)) :: some x :: subσ sub σ) H2 R)
    (hq : ∀ (D : Addr) (ys : List V) (H' : Hp), H D = none → (∀ b o, H b = some o → H' b = some o) → H' D = some (.lst ys) → ys.length = xs.length → (∀ (i : Nat) (y : V), ys[i]? = some y → P i y) → Q (.ref D) H') : CompB2 K (Ite K a) sub (fun _ H Q => Q true H) te σ Q H := by
  intro D nD
  refine comp_enum (K := K) (a := a) (xs := xs) (sub := sub) (tt := fun _ H Q => Q true H) (te := te) (Q := Q) (σ := σ) (fun i ys H2 => ys.length = i ∧ (∀ (j : Nat) (y : V), ys[j]? = some y → P j y) ∧ (∀ b o, H b = some o → H2 b = some o) ∧ H2 D = some (.lst ys))
    ⟨rfl, (fun j y e => by simp at e), (fun b o e => by rw [upd_ne (ne_of_none e nD)]; exact e), upd_same⟩ (fun i ys H2 _ hh => SqL.of (hh.2.2.1 _ _ ha)) (fun i x ys H2 t hx hh nt => ?_) fun ys H2 hh => ?_
  · obtain ⟨e1, e2, g, hD⟩ := hh
    have hi := (List.getElem?_eq_some_iff.mp hx).1
    have hD2 : upd H2 t (.tup [.int (i : Int), x]) D = some (.lst ys) := by rw [upd_ne (ne_of_none hD nt)]; exact hD
    refine iteT (hte i x _ _ hx fun y hy => ⟨hD2, small1000 (by omega), by rw [List.length_append, e1]; rfl, fun j z ez => ?_, fun b o e => ?_, upd_same⟩)
    · by_cases hj : j < ys.length
      · rw [List.getElem?_append_left hj] at ez
        exact e2 j z ez
      · have hj2 : j = i := by
          have := (List.getElem?_eq_some_iff.mp ez).1
          rw [List.length_append] at this
          have : j < ys.length + 1 := this
          omega
        rw [List.getElem?_append_right (by omega), hj2, e1, Nat.sub_self] at ez
        cases (show some y = some z from ez)
        rw [hj2]
        exact hy
    · rw [upd_ne (ne_of_none e nD), upd_ne (ne_of_none (g _ _ e) nt)]
      exact g _ _ e
  · obtain ⟨e1, e2, g, hD⟩ := hh
    exact hq D ys H2 nD g hD e1 e2
end
end L2
namespace Mine
open PySem L2
abbrev sKeys : Stmt := top 37
theorem let_at {i : Int} (h0 : 0 ≤ i) (h1 : i < 26) : atI letZ.cps.toList i = some (97 + i.toNat) := by
  obtain ⟨j, rfl⟩ : ∃ j : Nat, i = (j : Int) := ⟨i.toNat, by omega⟩
  refine atI_nat ?_
  have hj : j < 26 := by omega
  rw [Int.toNat_natCast]
  have : ∀ j, j < 26 → letZ.cps.toList[j]? = some (97 + j) := by decide +kernel
  exact this j hj
theorem fifth_of {d : Int} (h0 : 0 ≤ d) (h1 : d < 5) : ∃ s : Int, (s = 1 ∨ s = 5 ∨ s = 7 ∨ s = 9 ∨ s = 25) ∧ atI [V.int 1, V.int 5, V.int 7, V.int 9, V.int 25] d = some (V.int s) := by
  rcases (show d = 0 ∨ d = 1 ∨ d = 2 ∨ d = 3 ∨ d = 4 by omega) with rfl | rfl | rfl | rfl | rfl
  · exact ⟨1, by simp, rfl⟩
  · exact ⟨5, by simp, rfl⟩
  · exact ⟨7, by simp, rfl⟩
  · exact ⟨9, by simp, rfl⟩
  · exact ⟨25, by simp, rfl⟩
def LowC (c : Nat) : Prop := 97 ≤ c ∧ c ≤ 122
theorem lowC_in {c : Nat} (h : LowC c) : inZ letZ c = true := by
  unfold inZ
  refine decide_eq_true ?_
  have : ∀ c, c < 123 → 97 ≤ c → c ∈ letZ.cps.toList := by decide +kernel
  exact this c (by unfold LowC at h; omega) h.1
structure KeyOk (k : Str) : Prop where
  has : hasB k letZ 8 = true
  len : k.length < sizeLine
  nm : Nm k
theorem keyOk_of {k : Str} (h1 : 1 ≤ k.length) (h2 : k.length ≤ 8) (hc : ∀ c ∈ k.cps.toList, LowC c) : KeyOk k := by
  refine ⟨?_, Nat.lt_of_le_of_lt h2 (by decide), ?_⟩
  · unfold hasB
    rw [decide_eq_true (show (1 : Int) ≤ k.length by omega), decide_eq_true (show (k.length : Int) ≤ 8 by omega), Bool.true_and, Bool.true_and, List.all_eq_true]
    exact fun c hcc => lowC_in (hc c hcc)
  · unfold Nm
    rw [← Array.all_toList, List.all_eq_true]
    intro c hcc
    have := hc c hcc
    unfold LowC at this
    exact decide_eq_true (by omega)
def spKeys : Sp := fun vs H Q _ => ∃ (c : Int), vs = [.int c] ∧ ∀ (l : Addr) (ks : List Str) (H' : Hp), H l = none → Grow H H' → H' l = some (.lst (ks.map V.str)) → 1 ≤ ks.length → ks.length ≤ 8 → ks.Nodup → (∀ k ∈ ks, KeyOk k) → Q (.ref l) H'
section
variable {P : Program} {w : World} {K : PySem.W.Frag} {mg : Str → Option Value} {base : Heap}
theorem scKeys : FnScope ["_law_cell_here", "_law_letters", "_law_base", "_law_at", "_law_first", "_law_step", "_law_many", "_law_signs"] ["_law_cell_here"] (defScope sKeys) := ⟨rfl, rfl, rfl, by decide +kernel, rfl, by decide +kernel, by decide +kernel⟩
theorem ok_keys {f f1 f2 : Addr} {fd : FuncData} (F : Fun K "_law_keys" "_law_keys" sKeys f fd) (N : Free mg) {fd1 : FuncData} (CD : Cal P w K mg base "_law_draw" 2 ["_law_cell_here", "_law_k", "_law_many"] spDraw f1 fd1) {fd2 : FuncData} (CM : Cal P w K mg base "_law_mix" 1 ["_law_cell_here", "_law_k"] spMix f2 fd2) : FnOk P w K mg base CX0 3 f fd ["_law_cell_here"] spKeys := by
  refine F.ok (k := 2) scKeys (fun vs H Q E h => ?_) (fun cdv A outer s H vs Q E hr h => ?_)
  · obtain ⟨c, rfl, _⟩ := h
    rfl
  · obtain ⟨c, rfl, q⟩ := h
    have hu := hu_of hr
    refine ⟨_, (pss_cons (ps_set (i := 1) scKeys.nd rfl (Or.inr rfl) pe_str)
      (pss_cons (ps_set (i := 2) scKeys.nd rfl (Or.inr rfl) (pe_bm PySem.F.plainAttrs_str PySem.F.slot_str_join PySem.F.type_str_join mt_join pe_str (pa_cons (pe_of (pec_compN rfl (pi_range1 rfl N.range (pa_cons (pe_call CD.ok (hr.mono (by decide)) rfl CD.nm CD.kp CD.bd .nil pass0 (pa_cons (pv 0) (pa_cons pe_int (pa_cons pe_int pa_nil)))) pa_nil)) rfl rfl (by show ∀ p ∈ _, CapN [Str.ofString "_law_letters", Str.ofString "_law_cell_here"] p; decide) (by decide) rfl (by show ([Str.ofString "_law_j", Str.ofString "_law_letters", Str.ofString "_law_cell_here"] : List Str).Nodup; decide) (.cons (i := 1) rfl (.inr (.inl rfl)) (by show (some NameKind.cell) ≠ some NameKind.local; decide) (.inl rfl) rfl (.cons (i := 0) rfl (.inr (.inl rfl)) (by show (some NameKind.cell) ≠ some NameKind.local; decide) (.inl rfl) rfl .nil)) (fun C fp s H => pts_nil) (fun C fp s H => (pe_ix ix_str (pv 1) (pe_op op_mod (pe_call CM.ok (hr.mono (by decide)) rfl CM.nm CM.kp CM.bd .nil pass0 (pa_cons (pv 2) (pa_cons (pe_op op_add pe_int (pv 0)) pa_nil))) pe_int) (fun _ _ => rfl))))) pa_nil)))
      (pss_cons (ps_set (i := 3) scKeys.nd rfl (Or.inr rfl) (pe_call CD.ok (hr.mono (by decide)) rfl CD.nm CD.kp CD.bd .nil pass0 (pa_cons (pv 0) (pa_cons pe_int (pa_cons (pe_op op_add (pe_callB call_len_str (by rfl) N.len PySem.boot_len (pa_cons (pv 2) pa_nil)) pe_int) pa_nil)))))
      (pss_cons (ps_set (i := 4) scKeys.nd rfl (Or.inr rfl) (pe_call CD.ok (hr.mono (by decide)) rfl CD.nm CD.kp CD.bd .nil pass0 (pa_cons (pv 0) (pa_cons pe_int (pa_cons pe_int pa_nil)))))
      (pss_cons (ps_set (i := 5) scKeys.nd rfl (Or.inr rfl) (pe_ix ix_list (pe_lst (pa_cons pe_int (pa_cons pe_int (pa_cons pe_int (pa_cons pe_int (pa_cons pe_int pa_nil)))))) (pe_call CD.ok (hr.mono (by decide)) rfl CD.nm CD.kp CD.bd .nil pass0 (pa_cons (pv 0) (pa_cons pe_int (pa_cons pe_int pa_nil)))) (fun _ _ => rfl)))
      (pss_cons (ps_set (i := 6) scKeys.nd rfl (Or.inl rfl) (pe_op op_add pe_int (pe_call CD.ok (hr.mono (by decide)) rfl CD.nm CD.kp CD.bd .nil pass0 (pa_cons (pv 0) (pa_cons pe_int (pa_cons pe_int pa_nil))))))
      (pss_cons (ps_setC (i := 7) scKeys.nd rfl (Or.inl rfl) (pec_compN rfl (pi_range1 rfl N.range (pa_cons (pv 6) pa_nil)) rfl rfl (by show ∀ p ∈ _, CapN [Str.ofString "_law_step", Str.ofString "_law_letters", Str.ofString "_law_first"] p; decide) (by decide) rfl (by show ([Str.ofString "_law_k", Str.ofString "_law_step", Str.ofString "_law_letters", Str.ofString "_law_first"] : List Str).Nodup; decide) (.cons (i := 5) rfl (.inr (.inl rfl)) (by show (some NameKind.cell) ≠ some NameKind.local; decide) (.inl rfl) rfl (.cons (i := 1) rfl (.inr (.inl rfl)) (by show (some NameKind.cell) ≠ some NameKind.local; decide) (.inl rfl) rfl (.cons (i := 4) rfl (.inr (.inl rfl)) (by show (some NameKind.cell) ≠ some NameKind.local; decide) (.inl rfl) rfl .nil))) (fun C fp s H => pts_nil) (fun C fp s H => (pe_ix ix_str (pv 2) (pe_op op_mod (pe_op op_add (pv 3) (pe_op op_mul (pv 1) (pv 0))) pe_int) (fun _ _ => rfl)))))
      (pss_one (ps_ret (pe_of (pec_compN2 rfl (pi_enum rfl N.enumerate (pa_cons (pv 7) pa_nil)) rfl rfl (by show ∀ p ∈ _, CapN [Str.ofString "_law_base", Str.ofString "_law_at"] p; decide) (by decide) rfl rfl (by show ([Str.ofString "_law_k", Str.ofString "_law_sign", Str.ofString "_law_base", Str.ofString "_law_at"] : List Str).Nodup; decide) (.cons (i := 2) rfl (.inr (.inl rfl)) (by show (some NameKind.cell) ≠ some NameKind.local; decide) (.inl rfl) rfl (.cons (i := 3) rfl (.inr (.inl rfl)) (by show (some NameKind.cell) ≠ some NameKind.local; decide) (.inl rfl) rfl .nil)) (fun C fp s H => pts_nil) (fun C fp s H => (pe_op op_add_str (pe_op op_add_str (pe_op op_add_str (pe_slice sl_str (pv 2) po_none (po_some (pv 3))) (pv 1)) (pe_slice sl_str (pv 2) (po_some (pv 3)) po_none)) (pe_slice sl_str pe_str po_none (po_some (pe_op op_mod (pv 0) pe_int)))))))))))))))), ?_⟩
    refine rd_seq (rd_asg ?_)
    dsimp only [tC, gName]
    refine rd_seq (rd_asg (rd_bm ⟨rfl, rd_cons (rd_comp ?_)⟩))
    refine ⟨_, rfl, c, 1, 5, rfl, by decide, by decide, by decide, fun m m0 m1 => ⟨m, rfl, by omega, by omega, ?_⟩⟩
    refine compB_range (fun _ y => ∃ d : Nat, LowC d ∧ y = V.str ⟨#[d]⟩) (by omega) (fun i H2 R hi hR => ?_) fun D ys nD hl hy => ?_
    · refine ⟨_, rfl, _, rfl, _, rfl, _, _, rfl, rfl, c, 50 + (0 + (i : Int)), rfl, by omega, by omega, fun x x0 x1 => ⟨_, _, rfl, rfl, (by show (0 : Int) < 26; decide), letZ, x % 26, _, rfl, rfl, by decide, let_at (Int.emod_nonneg _ (by decide)) (Int.emod_lt_of_pos _ (by decide)), hR _ ⟨_, ?_, rfl⟩⟩⟩
      have h1 := Int.emod_nonneg x (show (26 : Int) ≠ 0 by decide)
      have h2 := Int.emod_lt_of_pos x (show (0 : Int) < 26 by decide)
      unfold LowC
      omega
    obtain ⟨ds, rfl, hds, ld⟩ := singles hy
    have ld4 : ds.length ≤ 4 := by omega
    refine ⟨Str.ofString "", D, ds.map fun d => (⟨#[d]⟩ : Str), rfl, rfl, upd_same, ?_, ?_⟩
    · rw [sum_singles, List.length_map, show (Str.ofString "").length = 0 from rfl]; omega
    have zc : (Txt.join (Str.ofString "") (ds.map fun d => (⟨#[d]⟩ : Str))).cps.toList = ds := by rw [join0, flat_singles]
    generalize Txt.join (Str.ofString "") (ds.map fun d => (⟨#[d]⟩ : Str)) = z at zc
    have zl : z.length = ds.length := by rw [len_cps, zc]
    have zs : z.length ≤ sizeLine := Nat.le_trans (show z.length ≤ 4 by omega) (by decide)
    dsimp only [gName]
    refine ⟨_, rfl, _, rfl, z, rfl, zs, _, _, rfl, rfl, c, 2, (z.length : Int) + 1, rfl, by decide, by decide, by omega, fun av a0 a1 => ?_⟩
    obtain ⟨at_, rfl⟩ : ∃ j : Nat, av = (j : Int) := ⟨av.toNat, by omega⟩
    refine ⟨_, rfl, c, 3, 26, rfl, by decide, by decide, by decide, fun f f0 f1 => ?_⟩
    refine ⟨by show 5 ≤ sizeLine; decide, fun l nl => ⟨_, rfl, c, 4, 5, rfl, by decide, by decide, by decide, fun d d0 d1 => ?_⟩⟩
    obtain ⟨st, hst, es⟩ := fifth_of d0 d1
    refine ⟨l, _, d, V.int st, rfl, rfl, SqL.of upd_same, es, ?_⟩
    refine ⟨_, rfl, c, 0, 8, rfl, by decide, by decide, by decide, fun mm mm0 mm1 => ⟨_, _, rfl, rfl, ?_⟩⟩
    have g2 : Grow H (upd (upd H D (.lst ((ds.map fun d => (⟨#[d]⟩ : Str)).map V.str))) l (.lst [V.int 1, V.int 5, V.int 7, V.int 9, V.int 25])) := (Grow.new nD).trans (Grow.new nl)
    dsimp only
    refine rd_seq (rd_asg (rd_comp ?_))
    refine ⟨_, rfl, 1 + mm, rfl, by omega, by omega, ?_⟩
    refine compB_range (fun i y => y = V.str ⟨#[97 + ((f + st * (i : Int)) % 26).toNat]⟩) (by omega) (fun i H2 R hi hR => ?_) fun D2 ys nD2 hl2 hy2 => ?_
    · refine ⟨_, rfl, _, rfl, _, rfl, _, rfl, _, _, rfl, rfl, .inl (by rcases hst with rfl | rfl | rfl | rfl | rfl <;> decide), _, _, rfl, rfl, _, _, rfl, rfl, (by show (0 : Int) < 26; decide), letZ, _, _, rfl, rfl, by decide, let_at (Int.emod_nonneg _ (by decide)) (Int.emod_lt_of_pos _ (by decide)), hR _ ?_⟩
      rw [Int.zero_add]
    have e2 := listed (f := fun i : Nat => (⟨#[97 + ((f + st * (i : Int)) % 26).toNat]⟩ : Str)) (g := V.str) hl2 hy2
    dsimp only [gName]
    refine rd_ret (rd_comp2 ?_)
    refine ⟨_, rfl, D2, rfl, ⟨_, SqL.of upd_same⟩, ?_⟩
    have hmm : (1 + mm).toNat ≤ 8 := by omega
    refine compB_enum (fun i y => y = V.str ⟨(keyT ds at_ (97 + ((f + st * (i : Int)) % 26).toNat) i).toArray⟩) upd_same (by omega) (fun i x H2 R hx hR => ?_) fun D3 ys3 H3 nD3 g3 hD3 hl3 hy3 => ?_
    · have hx2 := hy2 i x hx
      subst hx2
      have hil := (List.getElem?_eq_some_iff.mp hx).1
      have s1 : (Txt.slice z none (some (at_ : Int))).cps.toList = ds.take at_ := by rw [sl_to (by omega), zc]
      have s2 : (Txt.slice z (some (at_ : Int)) none).cps.toList = ds.drop at_ := by rw [sl_from (by omega), zc]
      have l1 : (Txt.slice z none (some (at_ : Int))).length ≤ 4 := by rw [len_cps, s1, List.length_take]; omega
      have l2 : (Txt.slice z (some (at_ : Int)) none).length ≤ 4 := by rw [len_cps, s2, List.length_drop]; omega
      have s3 : (Txt.slice (Str.ofString "zz") none (some ((i : Int) % 3))).cps.toList = List.replicate (i % 3) 122 := by
        rw [show ((i : Int) % 3) = ((i % 3 : Nat) : Int) by omega, sl_to (by show i % 3 ≤ 2; omega)]
        rcases (show i % 3 = 0 ∨ i % 3 = 1 ∨ i % 3 = 2 by omega) with e | e | e <;> rw [e] <;> rfl
      have l3 : (Txt.slice (Str.ofString "zz") none (some ((i : Int) % 3))).length ≤ 2 := by rw [len_cps, s3, List.length_replicate]; omega
      have la : ∀ x y : Str, (x ++ y).length = x.length + y.length := fun x y => by rw [len_cps, app_cps, List.length_append, ← len_cps, ← len_cps]
      have big : ∀ n, n ≤ 1000 → n ≤ sizeLine := fun n h => Nat.le_trans h (by decide)
      refine ⟨_, rfl, _, rfl, _, rfl, z, rfl, zs, _, rfl, _, _, rfl, rfl, big _ (by show _ + 1 ≤ 1000; omega), _, rfl, _, rfl, _, rfl, z, rfl, zs, _, _, rfl, rfl, big _ ?_, _, rfl, _, _, rfl, rfl, (by show (0 : Int) < 3; decide), _, rfl, Str.ofString "zz", rfl, by decide, _, _, rfl, rfl, big _ ?_, hR _ ?_⟩
      · rw [la]; show _ + 1 + _ ≤ 1000; omega
      · rw [la, la]; show _ + 1 + _ + _ ≤ 1000; omega
      · congr 1
        apply str_ext
        rw [app_cps, app_cps, app_cps, s1, s2, s3]
        unfold keyT
        simp
    have e3 := listed (f := fun i : Nat => (⟨(keyT ds at_ (97 + ((f + st * (i : Int)) % 26).toNat) i).toArray⟩ : Str)) (g := V.str) (hl3.trans (by rw [hl2])) hy3
    have mlt : ∀ i : Nat, (0 : Int) ≤ (f + st * (i : Int)) % 26 ∧ (f + st * (i : Int)) % 26 < 26 := fun i => ⟨Int.emod_nonneg _ (by decide), Int.emod_lt_of_pos _ (by decide)⟩
    refine q D3 ((List.range (1 + mm).toNat).map fun i : Nat => (⟨(keyT ds at_ (97 + ((f + st * (i : Int)) % 26).toNat) i).toArray⟩ : Str)) H3 ?_ ((g2.trans (Grow.new nD2)).trans g3) (by rw [hD3, e3]) (by rw [List.length_map, List.length_range]; omega) (by rw [List.length_map, List.length_range]; exact hmm) ?_ fun k hk => ?_
    · exact (g2.trans (Grow.new nD2)).free nD3
    · unfold List.Nodup
      rw [List.pairwise_map]
      refine List.pairwise_lt_range.imp_of_mem fun {i j} hi hj hij he => ?_
      have hi := List.mem_range.mp hi
      have hj := List.mem_range.mp hj
      have he2 := congrArg (fun s : Str => s.cps.toList[at_]?) he
      dsimp only at he2
      rw [keyT_at (by omega), keyT_at (by omega)] at he2
      have he3 := Option.some.inj he2
      have := step_ne (f := f) (s := st) (k := (i : Int)) (k' := (j : Int)) hst (by omega) (by omega) (by omega) (by omega) (by have := mlt i; have := mlt j; omega)
      omega
    · obtain ⟨i, hi, rfl⟩ := List.mem_map.mp hk
      have hl : (⟨(keyT ds at_ (97 + ((f + st * (i : Int)) % 26).toNat) i).toArray⟩ : Str).length = ds.length + 1 + i % 3 := by
        rw [len_cps]
        exact keyT_len (by omega)
      refine keyOk_of (by omega) (by omega) (keyT_mem (P := LowC) hds (by have := mlt i; unfold LowC; omega) (by unfold LowC; omega))
end
end Mine
namespace L2
open PySem PySem.Spec PyProof.Rows
structure SA where
  d : Addr
  k : Addr
  f : Addr
  g : Addr
  e : Addr
def SA.At (s : SA) (b : Addr) : Prop := b = s.d ∨ b = s.k ∨ b = s.f ∨ b = s.g ∨ b = s.e
def sD (s : SA) : List (Key × V) := [(Sum.inr (Str.ofString "keys"), .ref s.k), (Sum.inr (Str.ofString "found"), .ref s.f), (Sum.inr (Str.ofString "gone"), .ref s.g), (Sum.inr (Str.ofString "deeds"), .ref s.e)]
theorem sD_merge (s : SA) : mergeK [] (sD s) = sD s := by rfl
theorem sD_k (s : SA) : valV (sD s) (Sum.inr (Str.ofString "keys")) = some (.ref s.k) := by rfl
theorem sD_f (s : SA) : valV (sD s) (Sum.inr (Str.ofString "found")) = some (.ref s.f) := by rfl
theorem sD_g (s : SA) : valV (sD s) (Sum.inr (Str.ofString "gone")) = some (.ref s.g) := by rfl
theorem sD_e (s : SA) : valV (sD s) (Sum.inr (Str.ofString "deeds")) = some (.ref s.e) := by rfl
structure StAt (H : Hp) (s : SA) (B : Bk) : Prop where
  dd : H s.d = some (.dK (sD s))
  hk : H s.k = some (.lst (B.ks.map V.str))
  hf : ∃ ps, H s.f = some (.lst (ps.map V.ref)) ∧ FndP H ps B.fs
  hg : H s.g = some (.dK B.gs)
  he : ∃ ps, H s.e = some (.lst (ps.map V.ref)) ∧ DeedP H ps B.ds
  fe : s.f ≠ s.e
  kf : s.k ≠ s.f
  ke : s.k ≠ s.e
  dg : s.d ≠ s.g
theorem StAt.keep {H H' : Hp} {s : SA} {B : Bk} (h : StAt H s B) (g : ∀ b o, s.At b → H b = some o → H' b = some o) (t : ∀ b xs, H b = some (.tup xs) → H' b = some (.tup xs)) : StAt H' s B := by
  obtain ⟨ps, e1, r1⟩ := h.hf
  obtain ⟨qs, e2, r2⟩ := h.he
  exact ⟨g _ _ (.inl rfl) h.dd, g _ _ (.inr (.inl rfl)) h.hk, ⟨ps, g _ _ (.inr (.inr (.inl rfl))) e1, Paired.mapP r1 fun _ _ e => t _ _ e⟩, g _ _ (.inr (.inr (.inr (.inl rfl)))) h.hg, ⟨qs, g _ _ (.inr (.inr (.inr (.inr rfl)))) e2, Paired.mapP r2 fun _ _ e => t _ _ e⟩, h.fe, h.kf, h.ke, h.dg⟩
theorem StAt.d_k {H : Hp} {s : SA} {B : Bk} (h : StAt H s B) : DGet H s.d (.str (Str.ofString "keys")) (some (.ref s.k)) := by rw [← sD_k s]; exact DGet.k (k := Sum.inr _) h.dd
theorem StAt.d_f {H : Hp} {s : SA} {B : Bk} (h : StAt H s B) : DGet H s.d (.str (Str.ofString "found")) (some (.ref s.f)) := by rw [← sD_f s]; exact DGet.k (k := Sum.inr _) h.dd
theorem StAt.d_g {H : Hp} {s : SA} {B : Bk} (h : StAt H s B) : DGet H s.d (.str (Str.ofString "gone")) (some (.ref s.g)) := by rw [← sD_g s]; exact DGet.k (k := Sum.inr _) h.dd
theorem StAt.d_e {H : Hp} {s : SA} {B : Bk} (h : StAt H s B) : DGet H s.d (.str (Str.ofString "deeds")) (some (.ref s.e)) := by rw [← sD_e s]; exact DGet.k (k := Sum.inr _) h.dd
theorem StAt.kind {H : Hp} {s : SA} {B : Bk} (h : StAt H s B) {b : Addr} (hb : s.At b) : (∃ xs, H b = some (.lst xs)) ∨ ∃ xs, H b = some (.dK xs) := by
  obtain ⟨ps, e1, r1⟩ := h.hf
  obtain ⟨qs, e2, r2⟩ := h.he
  rcases hb with rfl | rfl | rfl | rfl | rfl
  · exact .inr ⟨_, h.dd⟩
  · exact .inl ⟨_, h.hk⟩
  · exact .inl ⟨_, e1⟩
  · exact .inr ⟨_, h.hg⟩
  · exact .inl ⟨_, e2⟩
theorem StAt.not_tup {H : Hp} {s : SA} {B : Bk} (h : StAt H s B) {b : Addr} {xs : List V} (e : H b = some (.tup xs)) : ¬ s.At b := fun z => by
  rcases h.kind z with ⟨ys, q⟩ | ⟨ys, q⟩ <;> rw [e] at q <;> cases q
theorem StAt.not_ins {H : Hp} {s : SA} {B : Bk} (h : StAt H s B) {b C dx : Addr} {fs : List (Str × V)} (e : H b = some (.ins C dx fs)) : ¬ s.At b := fun z => by
  rcases h.kind z with ⟨ys, q⟩ | ⟨ys, q⟩ <;> rw [e] at q <;> cases q
theorem StAt.not_none {H : Hp} {s : SA} {B : Bk} (h : StAt H s B) {b : Addr} (e : H b = none) : ¬ s.At b := fun z => by
  rcases h.kind z with ⟨ys, q⟩ | ⟨ys, q⟩ <;> rw [e] at q <;> cases q
theorem BkAt.dom {C : Addr} {H : Hp} {p : Addr} {a : BA} {F : Addr → Prop} {B : Bk} (h : BkAt C H p a F B) : BkAt C H p a (fun b => F b ∧ H b ≠ none) B := by
  obtain ⟨ps, e1, r1⟩ := id h.hf
  obtain ⟨qs, e2, r2⟩ := id h.hd
  obtain ⟨ts, e3, l3, r3⟩ := id h.ht
  obtain ⟨f1, f2, f3, f4, f5⟩ := h.fa
  have nn : ∀ {b : Addr} {o : HO}, H b = some o → H b ≠ none := fun e z => by rw [e] at z; cases z
  refine ⟨h.ob, h.hn, h.hf, h.hw, h.hd, ⟨ts, e3, l3, fun i x e => ?_⟩, ⟨⟨f1, nn h.hn⟩, ⟨f2, nn e1⟩, ⟨f3, nn h.hw⟩, ⟨f4, nn e2⟩, ⟨f5, nn e3⟩⟩, h.nn, h.fd, h.ft, h.dt, h.ok⟩
  obtain ⟨kvs, q1, q2, q3⟩ := (r3 i x e).ex
  refine ⟨⟨(r3 i x e).fp, nn q1⟩, (r3 i x e).nm, kvs, q1, q2, fun k hk => ?_⟩
  obtain ⟨ra, rs, q4, q5⟩ := q3 k hk
  obtain ⟨ws, w1, w2⟩ := id q5.rl
  exact ⟨ra, rs, q4, ⟨q5.fp, nn w1⟩, q5.nm, q5.rl, q5.td, q5.i4, q5.dy⟩
theorem BkAt.M_F {C : Addr} {H : Hp} {p : Addr} {a : BA} {F : Addr → Prop} {B : Bk} (h : BkAt C H p a F B) {b : Addr} (m : a.M b) : F b := by
  obtain ⟨f1, f2, f3, f4, f5⟩ := h.fa
  rcases m with rfl | rfl | rfl | rfl <;> assumption
structure Pair (C L : Addr) (H : Hp) (p : Addr) (a : BA) (F : Addr → Prop) (s : SA) (B : Bk) : Prop where
  bk : BkAt C H p a F B
  st : StAt H s B
  fd : ∀ b, F b → H b ≠ none ∧ b ≠ L
  sf : ∀ b, s.At b → ¬ F b
theorem still {H H' : Hp} (g : ∀ b o, H b = some o → H' b = some o) {b : Addr} (n : H b ≠ none) : H' b ≠ none := fun z => by
  cases e : H b with
  | none => exact n e
  | some o =>
    rw [g b o e] at z
    cases z
theorem Pair.grow {C L : Addr} {H H' : Hp} {p : Addr} {a : BA} {F : Addr → Prop} {s : SA} {B : Bk} (h : Pair C L H p a F s B) (g : ∀ b o, H b = some o → H' b = some o) : Pair C L H' p a F s B :=
  ⟨h.bk.keep ⟨fun b o _ e => g b o e, fun b xs e => g b _ e, fun b c dx fs e => g b _ e⟩, h.st.keep (fun b o _ e => g b o e) fun b xs e => g b _ e, fun b f => ⟨still g (h.fd b f).1, (h.fd b f).2⟩, h.sf⟩
def stands (B : Bk) : List Nat := (List.range B.fs.length).filter fun i => (valV B.gs (Sum.inl (i : Int))).isNone
theorem stands_mem {B : Bk} {i : Nat} {n : Nat} (e : (stands B)[i]? = some n) : n < B.fs.length ∧ valV B.gs (Sum.inl (n : Int)) = none := by
  have h := List.mem_of_getElem? e
  obtain ⟨h1, h2⟩ := List.mem_filter.mp h
  exact ⟨List.mem_range.mp h1, Option.isNone_iff_eq_none.mp h2⟩
theorem Pair.keeps {C L : Addr} {H H' : Hp} {p : Addr} {a : BA} {F : Addr → Prop} {s : SA} {B : Bk} (h : Pair C L H p a F s B) (g : ∀ b o, H b = some o → ¬ s.At b → H' b = some o) : BkAt C H' p a F B :=
  h.bk.keep ⟨fun b o f e => g b o e fun z => h.sf b z f, fun b xs e => g b _ e (h.st.not_tup e), fun b c dx fs e => g b _ e (h.st.not_ins e)⟩
theorem StAt.find {H : Hp} {s : SA} {B : Bk} (h : StAt H s B) {k : Str} {f l v : Int} {y z : Addr} {ps qs : List Addr} (e1 : H s.f = some (.lst (ps.map V.ref))) (r1 : FndP H ps B.fs) (e2 : H s.e = some (.lst (qs.map V.ref))) (r2 : DeedP H qs B.ds)
    (ny : H y = none) {H1 H2 : Hp} (E1 : H1 = upd (upd H y (.tup [.str wFind, .int (B.fs.length : Int)])) s.e (.lst (qs.map V.ref ++ [.ref y]))) (nz : H1 z = none)
    (E2 : H2 = upd (upd H1 z (.tup [.str k, .int f, .int l, .int v, .int ((B.ds.length : Int) + 1)])) s.f (.lst (ps.map V.ref ++ [.ref z]))) :
    StAt H2 s (B.find k f l v) ∧ ∀ b o, H b = some o → ¬ s.At b → H2 b = some o := by
  have yn := fun {b : Addr} {o : HO} (e : H b = some o) => ne_of_none e ny
  have k1 : ∀ b o, H b = some o → b ≠ s.e → H1 b = some o := fun b o e n => by rw [E1, upd_ne n, upd_ne (yn e)]; exact e
  have k2 : ∀ b o, H1 b = some o → b ≠ s.f → H2 b = some o := fun b o e n => by rw [E2, upd_ne n, upd_ne (ne_of_none e nz)]; exact e
  have tp : ∀ b xs, H b = some (.tup xs) → H2 b = some (.tup xs) := fun b xs e => k2 b _ (k1 b _ e (ne_of e e2 (by intro z; cases z))) (ne_of e e1 (by intro z; cases z))
  have ey : H1 y = some (.tup [.str wFind, .int (B.fs.length : Int)]) := by rw [E1, upd_ne (yn e2).symm, upd_same]
  have ee : H1 s.e = some (.lst (qs.map V.ref ++ [.ref y])) := by rw [E1, upd_same]
  refine ⟨⟨k2 _ _ (k1 _ _ h.dd (ne_of h.dd e2 (by intro z; cases z))) (ne_of h.dd e1 (by intro z; cases z)), k2 _ _ (k1 _ _ h.hk h.ke) h.kf, ⟨ps ++ [z], by rw [E2, upd_same, List.map_append]; rfl, ?_⟩, k2 _ _ (k1 _ _ h.hg (ne_of h.hg e2 (by intro z; cases z))) (ne_of h.hg e1 (by intro z; cases z)), ⟨qs ++ [y], ?_, ?_⟩, h.fe, h.kf, h.ke, h.dg⟩, fun b o e n => k2 b o (k1 b o e fun z => n (.inr (.inr (.inr (.inr z))))) fun z => n (.inr (.inr (.inl z)))⟩
  · refine paired_snoc (Paired.mapP r1 fun _ _ e => tp _ _ e) ?_
    rw [E2, upd_ne (ne_of_none (k1 _ _ e1 h.fe) nz).symm, upd_same]
    rfl
  · rw [k2 _ _ ee h.fe.symm, List.map_append]; rfl
  · exact paired_snoc (Paired.mapP r2 fun _ _ e => tp _ _ e) (k2 _ _ ey (yn e1).symm)
theorem StAt.withd {H : Hp} {s : SA} {B : Bk} (h : StAt H s B) {n : Nat} {y : Addr} {qs : List Addr} (e2 : H s.e = some (.lst (qs.map V.ref))) (r2 : DeedP H qs B.ds)
    (ny : H y = none) {H1 H2 : Hp} (E1 : H1 = upd (upd H y (.tup [.str wWith, .int (n : Int)])) s.e (.lst (qs.map V.ref ++ [.ref y])))
    (E2 : H2 = upd H1 s.g (.dK (putK B.gs (Sum.inl (n : Int)) (.int ((B.ds.length : Int) + 1))))) :
    StAt H2 s (B.withd n) ∧ ∀ b o, H b = some o → ¬ s.At b → H2 b = some o := by
  have yn := fun {b : Addr} {o : HO} (e : H b = some o) => ne_of_none e ny
  obtain ⟨ps, e1, r1⟩ := id h.hf
  have k1 : ∀ b o, H b = some o → b ≠ s.e → H1 b = some o := fun b o e n => by rw [E1, upd_ne n, upd_ne (yn e)]; exact e
  have k2 : ∀ b o, H1 b = some o → b ≠ s.g → H2 b = some o := fun b o e n => by rw [E2, upd_ne n]; exact e
  have tp : ∀ b xs, H b = some (.tup xs) → H2 b = some (.tup xs) := fun b xs e => k2 b _ (k1 b _ e (ne_of e e2 (by intro z; cases z))) (ne_of e h.hg (by intro z; cases z))
  have ey : H1 y = some (.tup [.str wWith, .int (n : Int)]) := by rw [E1, upd_ne (yn e2).symm, upd_same]
  have ee : H1 s.e = some (.lst (qs.map V.ref ++ [.ref y])) := by rw [E1, upd_same]
  refine ⟨⟨k2 _ _ (k1 _ _ h.dd (ne_of h.dd e2 (by intro z; cases z))) h.dg, k2 _ _ (k1 _ _ h.hk h.ke) (ne_of h.hk h.hg (by intro z; cases z)), ⟨ps, k2 _ _ (k1 _ _ e1 h.fe) (ne_of e1 h.hg (by intro z; cases z)), Paired.mapP r1 fun _ _ e => tp _ _ e⟩, by rw [E2, upd_same]; rfl, ⟨qs ++ [y], ?_, ?_⟩, h.fe, h.kf, h.ke, h.dg⟩, fun b o e n => k2 b o (k1 b o e fun z => n (.inr (.inr (.inr (.inr z))))) fun z => n (.inr (.inr (.inr (.inl z))))⟩
  · rw [k2 _ _ ee (ne_of e2 h.hg (by intro z; cases z)), List.map_append]; rfl
  · exact paired_snoc (Paired.mapP r2 fun _ _ e => tp _ _ e) (k2 _ _ ey (yn h.hg).symm)
theorem Pair.after {C L : Addr} {H H3 H' : Hp} {p : Addr} {a : BA} {F F' : Addr → Prop} {s : SA} {B B' : Bk} {ps : Array Value} (h : Pair C L H p a F s B) (h3 : StAt H3 s B') (k3 : ∀ b o, H b = some o → ¬ s.At b → H3 b = some o) (hL : H3 L = some (.tbl ps))
    (f1 : ∀ b, F' b → F b ∨ H3 b = none) (g : ∀ b o, H3 b = some o → b ≠ L → ¬ a.M b → H' b = some o) (hb : BkAt C H' p a F' B') :
    Pair C L H' p a (fun b => F' b ∧ H' b ≠ none) s B' ∧ (∀ b, (F' b ∧ H' b ≠ none) → F b ∨ H b = none) ∧ ∀ b o, H b = some o → b ≠ L → ¬ a.M b → ¬ s.At b → H' b = some o := by
  have sM : ∀ b, s.At b → ¬ a.M b := fun b z m => h.sf b z (h.bk.M_F m)
  have sL : ∀ b, s.At b → b ≠ L := fun b z => by
    rcases h3.kind z with ⟨ys, q⟩ | ⟨ys, q⟩
    · exact ne_of q hL (by intro z; cases z)
    · exact ne_of q hL (by intro z; cases z)
  have tM : ∀ b xs, H3 b = some (.tup xs) → H' b = some (.tup xs) := fun b xs e => by
    refine g b _ e (ne_of e hL (by intro z; cases z)) fun m => ?_
    have hF := h.bk.M_F m
    have hn := (h.fd b hF).1
    obtain ⟨q1, q2, q3, q4⟩ := (⟨h.bk.hf, h.bk.hw, h.bk.hd, h.bk.ht⟩ : _ ∧ _ ∧ _ ∧ _)
    obtain ⟨w1, x1, _⟩ := q1
    obtain ⟨w3, x3, _⟩ := q3
    obtain ⟨w4, x4, _, _⟩ := q4
    have nS : ¬ s.At b := fun z => h.sf b z hF
    rcases m with m | m | m | m
    · rw [m] at e nS; rw [k3 _ _ x1 nS] at e; cases e
    · rw [m] at e nS; rw [k3 _ _ q2 nS] at e; cases e
    · rw [m] at e nS; rw [k3 _ _ x3 nS] at e; cases e
    · rw [m] at e nS; rw [k3 _ _ x4 nS] at e; cases e
  refine ⟨⟨hb.dom, h3.keep (fun b o z e => g b o e (sL b z) (sM b z)) tM, fun b hf => ⟨hf.2, ?_⟩, fun b z hf => ?_⟩, fun b hf => ?_, fun b o e n1 n2 n3 => g b o (k3 b o e n3) n1 n2⟩
  · rcases f1 b hf.1 with q | q
    · exact (h.fd b q).2
    · exact (ne_of_none hL q).symm
  · rcases f1 b hf.1 with q | q
    · exact h.sf b z q
    · exact h3.not_none q z
  · rcases f1 b hf.1 with q | q
    · exact .inl q
    · refine .inr ?_
      cases e : H b with
      | none => rfl
      | some o =>
        by_cases z : s.At b
        · exact absurd z (h3.not_none q)
        · rw [k3 b o e z] at q; cases q
theorem rd_clip {D : Ends} {σ : St} {H : Hp} {k : Nat} {v : Int} (hσ : σ[k]? = some (some (.int v))) (h : ∀ v' : Int, (v' = v ∧ v ≤ 1000000000 ∨ v' = 1000000000) → D.nx (σ.set k (some (.int v'))) H) :
    tIfS (tTest (tOp (rI0 fun i j => V.bl (decide (j < i))) (tVar k) (tOp (rI CPow fun i j => V.int (i ^ j.toNat)) (tC (V.int 10)) (tC (V.int 9))))) (tAsg (tOp (rI CPow fun i j => V.int (i ^ j.toNat)) (tC (V.int 10)) (tC (V.int 9))) (gName k)) tNext D σ H := by
  have cp : CPow 10 9 := ⟨by decide, by decide, by decide⟩
  refine ⟨_, hσ, 10, 9, rfl, rfl, cp, v, _, rfl, rfl, _, rfl, ?_⟩
  by_cases hv : (10 : Int) ^ (9 : Int).toNat < v
  · rw [decide_eq_true hv]
    refine iteT ⟨10, 9, rfl, rfl, cp, h _ (.inr (by decide))⟩
  · rw [decide_eq_false hv]
    refine iteF ?_
    have z : (10 : Int) ^ (9 : Int).toNat = 1000000000 := by decide
    rw [z] at hv
    have := h v (.inl ⟨rfl, by omega⟩)
    have e : σ.set k (some (.int v)) = σ := by
      obtain ⟨hk, e⟩ := List.getElem?_eq_some_iff.mp hσ
      rw [← e]
      exact List.set_getElem_self hk
    rw [e] at this
    exact this
end L2
namespace Mine
open PySem L2
abbrev sState : Stmt := top 38
abbrev sStand : Stmt := top 40
theorem of_upd_none {H : Hp} {a b : Addr} {o : HO} (h : upd H a o b = none) : b ≠ a ∧ H b = none := by
  have n : b ≠ a := fun z => by rw [z, upd_same] at h; cases h
  rw [upd_ne n] at h
  exact ⟨n, h⟩
def spState : Sp := fun vs H Q _ => ∃ (kl : Addr) (ks : List Str), vs = [.ref kl] ∧ H kl = some (.lst (ks.map V.str)) ∧ ∀ (s : SA) (H' : Hp), s.k = kl → Grow H H' → (∀ b, s.At b → b ≠ kl → H b = none) → StAt H' s (Bk.new ks) → Q (.ref s.d) H'
def spStand : Sp := fun vs H Q _ => ∃ (s : SA) (B : Bk), vs = [.ref s.d] ∧ StAt H s B ∧ B.fs.length ≤ 60 ∧ ∀ D, H D = none → Q (.ref D) (upd H D (.lst ((stands B).map fun i : Nat => V.int (i : Int))))
section
variable {P : Program} {w : World} {K : PySem.W.Frag} {mg : Str → Option Value} {base : Heap}
theorem scState : FnScope ["_law_keys_here"] ["_law_keys_here"] (defScope sState) := ⟨rfl, rfl, rfl, by decide +kernel, rfl, by decide +kernel, by decide +kernel⟩
theorem ok_state {f : Addr} {fd : FuncData} (F : Fun K "_law_state" "_law_state" sState f fd) (N : Free mg) : FnOk P w K mg base CX0 1 f fd ["_law_keys_here"] spState := by
  refine F.ok (k := 0) scState (fun vs H Q E h => ?_) (fun cdv A outer s H vs Q E hr h => ?_)
  · obtain ⟨kl, ks, rfl, _⟩ := h
    rfl
  · obtain ⟨kl, ks, rfl, hk, q⟩ := h
    have hu := hu_of hr
    refine ⟨_, (pss_one (ps_ret (pe_disp (pps_cons pe_str (pv 0) (pps_cons pe_str (pe_lst pa_nil) (pps_cons pe_str pe_dnewK (pps_cons pe_str (pe_lst pa_nil) pps_nil)))) rfl rfl (by decide) (by decide)))), ?_⟩
    refine rd_ret ?_
    intro d nd
    refine ⟨_, rfl, Nat.zero_le _, fun lf nf g ng => ⟨Nat.zero_le _, fun le ne => ⟨?_, sD ⟨d, kl, lf, g, le⟩, rfl, (by show 4 ≤ 15; decide), ?_⟩⟩⟩
    all_goals
      obtain ⟨f1, f2⟩ := of_upd_none nf
      obtain ⟨g1, g2⟩ := of_upd_none ng
      obtain ⟨g3, g4⟩ := of_upd_none g2
      obtain ⟨i1, i2⟩ := of_upd_none ne
      obtain ⟨i3, i4⟩ := of_upd_none i2
      obtain ⟨i5, i6⟩ := of_upd_none i4
    · rw [upd_ne i5.symm, upd_ne g3.symm, upd_ne f1.symm, upd_same]
    · rw [sD_merge]
      have nk : ∀ {b : Addr}, H b = none → kl ≠ b := fun e z => by rw [← z, hk] at e; cases e
      refine q ⟨d, kl, lf, g, le⟩ _ rfl ?_ (fun b hb n => ?_) ⟨upd_same, ?_, ⟨[], ?_, .nil⟩, ?_, ⟨[], ?_, .nil⟩, i3.symm, nk f2, nk i6, g3.symm⟩
      · intro b o e
        rw [upd_ne (ne_of_none e nd), upd_ne (ne_of_none e i6), upd_ne (ne_of_none e g4), upd_ne (ne_of_none e f2), upd_ne (ne_of_none e nd)]
        exact e
      · rcases hb with rfl | rfl | rfl | rfl | rfl
        · exact nd
        · exact absurd rfl n
        · exact f2
        · exact g4
        · exact i6
      · show upd _ d _ kl = _
        rw [upd_ne (nk nd), upd_ne (nk i6), upd_ne (nk g4), upd_ne (nk f2), upd_ne (nk nd)]
        exact hk
      · show upd _ d _ lf = _
        rw [upd_ne f1, upd_ne i3.symm, upd_ne g1.symm, upd_same]; rfl
      · show upd _ d _ g = _
        rw [upd_ne g3, upd_ne i1.symm, upd_same]; rfl
      · show upd _ d _ le = _
        rw [upd_ne i5, upd_same]; rfl
end
section
variable {P : Program} {w : World} {K : PySem.W.Frag} {mg : Str → Option Value} {base : Heap}
theorem scStand : FnScope ["_law_state_here"] ["_law_state_here"] (defScope sStand) := ⟨rfl, rfl, rfl, by decide +kernel, rfl, by decide +kernel, by decide +kernel⟩
theorem ok_stand {f : Addr} {fd : FuncData} (F : Fun K "_law_standing" "_law_standing" sStand f fd) (N : Free mg) : FnOk P w K mg base CX0 1 f fd ["_law_state_here"] spStand := by
  refine F.ok (k := 0) scStand (fun vs H Q E h => ?_) (fun cdv A outer s H vs Q E hr h => ?_)
  · obtain ⟨s, B, rfl, _⟩ := h
    rfl
  · obtain ⟨s, B, rfl, h, h60, q⟩ := h
    have hu := hu_of hr
    refine ⟨_, (pss_one (ps_ret (pe_of (pec_compN rfl (pi_range1 rfl N.range (pa_cons (pe_callB call_len_seq (by rfl) N.len PySem.boot_len (pa_cons (pe_dget hu (pv 0) pe_str (fun _ _ => rfl)) pa_nil)) pa_nil)) rfl rfl (by show ∀ p ∈ _, CapN [Str.ofString "_law_state_here"] p; decide) (by decide) rfl (by show ([Str.ofString "_law_number", Str.ofString "_law_state_here"] : List Str).Nodup; decide) (.cons (i := 0) rfl (.inr (.inl rfl)) (by show (some NameKind.cell) ≠ some NameKind.local; decide) (.inl rfl) rfl .nil) (fun C fp s H => (pts_one (pt_cmp (pc_dnotin hu (pv 0) (pe_dget hu (pv 1) pe_str (fun _ _ => rfl)))))) (fun C fp s H => (pv 0)))))), ?_⟩
    refine rd_ret (rd_comp ?_)
    obtain ⟨ps, e1, r1⟩ := id h.hf
    have lps : ps.length = B.fs.length := Paired.length r1
    refine ⟨_, rfl, s.d, _, rfl, h.d_f, s.f, _, rfl, .inl (SqL.of e1), ?_⟩
    rw [List.length_map, lps]
    refine ⟨_, rfl, by omega, by omega, ?_⟩
    rw [Int.toNat_natCast]
    refine compB_filter (c := fun i => (valV B.gs (Sum.inl (i : Int))).isNone) (by omega) (fun i H2 R hi g hR => ?_) (fun i H2 R hi hR => ⟨_, rfl, ?_⟩) fun D nD => q D nD
    · have h2 := StAt.keep h (fun b o _ e => g b o e) (fun b xs e => g b _ e)
      refine ⟨_, rfl, _, rfl, s.d, _, rfl, h2.d_g, s.g, _, rfl, DGet.k (k := Sum.inl _) h2.hg, _, rfl, ?_⟩
      rw [Int.zero_add, Option.not_isSome]
      exact hR
    · rw [Int.zero_add]
      exact hR
end
end Mine
namespace Mine
open PySem L2
def spAreKeys : Sp := fun vs H Q _ => ∃ (a : Addr) (ks : List Str), vs = [.ref a] ∧ H a = some (.lst (ks.map V.str)) ∧ 1 ≤ ks.length ∧ ks.length ≤ 8 ∧ ks.Nodup ∧ (∀ k ∈ ks, hasB k letZ 8 = true ∧ k.length < sizeLine) ∧ ∀ H', Grow H H' → Q (.bl true) H'
theorem tcomp_names {K : PySem.W.Frag} {E : XK} {σ : St} {H : Hp} {Q : VK} {a : Addr} {ks : List Str} (e0 : σ[0]? = some (some (.ref a))) (ha : H a = some (.lst (ks.map V.str))) (hk : ∀ k ∈ ks, hasB k letZ 8 = true ∧ k.length < sizeLine) (hl : ks.length ≤ 8)
    (hq : ∀ (D : Addr) (H' : Hp), H D = none → Grow H H' → H' D = some (.lst ((List.replicate ks.length true).map V.bl)) → Q (.ref D) H') :
    tComp (iList K (tVar 0)) [] (fun _ H Q => Q true H) (tCall spName [] E (tCons (tVar 0) tNil)) σ H Q := by
  refine ⟨_, e0, a, rfl, ⟨_, SqL.of ha⟩, fun D nD => comp_list (K := K) (a := a) (xs := ks.map V.str) (sub := []) (tt := fun _ H Q => Q true H) (te := tCall spName [] E (tCons (tVar 0) tNil)) (Q := Q) (σ := σ)
    (fun i ys H2 => ys = (List.replicate i true).map V.bl ∧ Grow H H2 ∧ H2 D = some (.lst ys)) ⟨rfl, Grow.new nD, upd_same⟩ (fun i ys H2 _ hh => ?_) (fun i x ys H2 hi hh => ?_) fun ys H2 hh => ?_⟩
  · exact SqL.of (hh.2.1 _ _ ha)
  · obtain ⟨rfl, g, hD⟩ := hh
    rw [List.getElem?_map] at hi
    cases ek : ks[i]? with
    | none => rw [ek] at hi; cases hi
    | some k =>
      rw [ek] at hi
      cases hi
      have hil := (List.getElem?_eq_some_iff.mp ek).1
      obtain ⟨k1, k2⟩ := hk k (List.mem_of_getElem? ek)
      refine iteT ⟨_, rfl, k, rfl, k2, fun H3 g3 => ⟨g3 _ _ hD, ?_, ?_, ?_, ?_⟩⟩
      · rw [List.length_map, List.length_replicate]
        exact small1000 (by omega)
      · rw [k1, List.replicate_succ', List.map_append]; rfl
      · intro b o e
        rw [upd_ne (ne_of_none e nD)]
        exact g3 _ _ (g _ _ e)
      · exact upd_same
  · obtain ⟨rfl, g, hD⟩ := hh
    rw [List.length_map] at hD
    exact hq D H2 nD g hD
section
variable {P : Program} {w : World} {K : PySem.W.Frag} {mg : Str → Option Value} {base : Heap}
theorem scAreKeys : FnScope ["thing"] ["thing"] (defScope sAreKeys) := ⟨rfl, rfl, rfl, by decide +kernel, rfl, by decide +kernel, by decide +kernel⟩
theorem ok_areKeys {f f1 : Addr} {fd : FuncData} (F : Fun K "are_keys" "are_keys" sAreKeys f fd) (N : Free mg) (C : Con mg) {fd1 : FuncData} (CN : Cal P w K mg base "is_name" 2 ["thing"] spName f1 fd1) : FnOk P w K mg base CX0 3 f fd ["thing"] spAreKeys := by
  obtain ⟨t1, c1⟩ := C.keys
  refine F.ok (k := 2) scAreKeys (fun vs H Q E h => ?_) (fun cdv A outer s H vs Q E hr h => ?_)
  · obtain ⟨a, ks, rfl, _⟩ := h
    rfl
  · obtain ⟨a, ks, rfl, ha, k1, k8, nd, hk, hq⟩ := h
    have hu := hu_of hr
    refine ⟨_, (pss_cons (ps_if (PW.pt (pw_or (pt_not (pt_val (pe_callB call_isinst (by rfl) N.isinstance PyProof.Rows.Boot.«isinstance» (pa_cons (pv 0) (pa_cons (pe_bltn (v := .ty "list") (by rfl) N.list PyProof.Rows.Boot.«list» rfl) pa_nil))))) (pw_or1 (pt_not (pt_chain op_le op_le pe_int (pe_callB call_len_seq (by rfl) N.len PySem.boot_len (pa_cons (pv 0) pa_nil)) (pe_glob (v := .int 8) (by rfl) c1 ⟨_, rfl⟩)))))) (pss_one (ps_ret pe_bl)) pss_nil)
      (pss_one (ps_ret (pe_and (pe_callB (call_allB rfl) (by rfl) N.all PyProof.Rows.Boot.«all» (pa_cons (pe_of (pec_compN rfl (pi_list (pv 0)) rfl rfl (by show ∀ p ∈ _, CapN [] p; decide) (by decide) rfl (by show ([Str.ofString "key"] : List Str).Nodup; decide) .nil (fun C fp s H => pts_nil) (fun C fp s H => (pe_call CN.ok (hr.mono (by decide)) rfl CN.nm CN.kp CN.bd .nil pass0 (pa_cons (pv 0) pa_nil))))) pa_nil)) (pe_one (pe_cmpR op_eq (pe_callB call_lenS (by rfl) N.len PySem.boot_len (pa_cons (pe_callTy (call_setS rfl) (by rfl) N.set PyProof.Rows.Boot.«set» (pa_cons (pv 0) pa_nil)) pa_nil)) (pe_callB call_len_seq (by rfl) N.len PySem.boot_len (pa_cons (pv 0) pa_nil)) (nomark _))))))), ?_⟩
    have hS : SqL K H a (ks.map V.str) := SqL.of ha
    refine ⟨_, rfl, .ref a, "list", _, true, rfl, .lst ha, by rfl, _, rfl, iteF ?_⟩
    refine ⟨_, rfl, a, _, rfl, .inl hS, _, _, rfl, rfl, _, rfl, ?_⟩
    rw [List.length_map, decide_eq_true (show (1 : Int) ≤ ks.length by omega)]
    refine iteT ⟨_, _, rfl, rfl, _, rfl, ?_⟩
    rw [decide_eq_true (show (ks.length : Int) ≤ 8 by omega)]
    refine iteF ?_
    refine rd_next ?_
    dsimp only
    refine rd_ret (rd_andV (rd_cb (rd_cons ?_)))
    refine tcomp_names rfl ha hk k8 ?_
    intro D H' nD g hD
    refine ⟨D, _, rfl, SqL.of hD, _, rfl, ?_⟩
    rw [show (List.replicate ks.length true).all id = true from by simp]
    refine iteT ?_
    refine ⟨_, rfl, a, ks, rfl, SqL.of (g _ _ ha), nd, by omega, fun p np => ?_⟩
    refine ⟨p, ks, rfl, upd_same, _, rfl, a, _, rfl, .inl (SqL.of (by rw [upd_ne (ne_of_none (g _ _ ha) np)]; exact g _ _ ha)), rfl, ?_⟩
    rw [List.length_map, decide_eq_true rfl]
    exact hq _ (g.trans (Grow.new np))
end
end Mine
namespace Mine
open PySem L2
abbrev sNow : Stmt := inClass (top 29) 2
abbrev sChkKey : Stmt := inClass (top 29) 10
abbrev sChkNum : Stmt := inClass (top 29) 11
abbrev sChkRoom : Stmt := inClass (top 29) 12
abbrev sMeant : Stmt := inClass (top 29) 13
abbrev sTable : Stmt := inClass (top 29) 9
abbrev sDeedAt : Stmt := inClass (top 29) 5
abbrev sFound : Stmt := inClass (top 29) 6
theorem inV_mem {k : Str} {ks : List Str} (h : k ∈ ks) : inV (.str k) (ks.map V.str) = true := by
  unfold inV
  rw [List.any_map, List.any_eq_true]
  exact ⟨k, h, by show eqV (.str k) (.str k) = true; simp [eqV]⟩
theorem flat_strs (ks : List Str) : (ks.map V.str).all flatV = true := by
  rw [List.all_map, List.all_eq_true]
  intro x _
  rfl
def spNow (C : Addr) : Sp := fun vs H Q _ => ∃ (p : Addr) (a : BA) (F : Addr → Prop) (B : Bk), vs = [.ref p] ∧ BkT C H p a F B ∧ Q (.int (B.ds.length : Int)) H
def spChkKey (C : Addr) : Sp := fun vs H Q _ => ∃ (p : Addr) (a : BA) (F : Addr → Prop) (B : Bk) (k : Str), vs = [.ref p, .str k] ∧ BkT C H p a F B ∧ k ∈ B.ks ∧ Q .non H
def spChkNum (C : Addr) : Sp := fun vs H Q _ => ∃ (p : Addr) (a : BA) (F : Addr → Prop) (B : Bk) (n : Nat), vs = [.ref p, .int (n : Int)] ∧ BkAt C H p a F B ∧ n < B.fs.length ∧ Q .non H
def spChkRoom (C : Addr) : Sp := fun vs H Q _ => ∃ (p : Addr) (a : BA) (F : Addr → Prop) (B : Bk), vs = [.ref p] ∧ BkT C H p a F B ∧ B.ds.length < 60 ∧ Q .non H
def spMeant (C : Addr) : Sp := fun vs H Q _ => ∃ (p : Addr) (a : BA) (F : Addr → Prop) (B : Bk) (v : V) (t : Nat), vs = [.ref p, v] ∧ BkT C H p a F B ∧ t ≤ B.ds.length ∧ ((v = .non ∧ t = B.ds.length) ∨ v = .int (t : Int)) ∧ Q (.int (t : Int)) H
def spDeedAt (C : Addr) : Sp := fun vs H Q _ => ∃ (p : Addr) (a : BA) (F : Addr → Prop) (B : Bk) (t : Nat) (d : Deed), vs = [.ref p, .int ((t : Int) + 1)] ∧ BkAt C H p a F B ∧ B.ds[t]? = some d ∧ ∀ q, H q = some (.tup (tupD d)) → Q (.ref q) H
def spFound (C : Addr) : Sp := fun vs H Q _ => ∃ (p : Addr) (a : BA) (F : Addr → Prop) (B : Bk) (n : Nat) (r : Fnd), vs = [.ref p, .int (n : Int)] ∧ BkAt C H p a F B ∧ B.fs[n]? = some r ∧ ∀ q H', Grow H H' → H' q = some (.tup (tupF r ++ [(valV B.gs (Sum.inl (n : Int))).getD .non])) → Q (.ref q) H'
def spTable (C : Addr) : Sp := fun vs H Q _ => ∃ (p : Addr) (a : BA) (F : Addr → Prop) (B : Bk) (k : Str) (v : V) (t : Nat), vs = [.ref p, .str k, v] ∧ BkT C H p a F B ∧ k ∈ B.ks ∧ t ≤ B.ds.length ∧ ((v = .non ∧ t = B.ds.length) ∨ v = .int (t : Int)) ∧
  ∀ (l : Addr) (ps : List Addr) (rs : List RowV), H l = none → RowsP H ps rs → Strip.Tidy rs → In400 rs → (∀ x, Strip.dayOf rs x = (B.spk k t x).map V.int) → Q (.ref l) (upd H l (.lst (ps.map V.ref)))
section
variable {P : Program} {w : World} {K : PySem.W.Frag} {mg : Str → Option Value} {base : Heap}
theorem scNow : FnScope ["self"] ["self"] (defScope sNow) := ⟨rfl, rfl, rfl, by decide +kernel, rfl, by decide +kernel, by decide +kernel⟩
theorem ok_now {f C : Addr} {fd : FuncData} (F : Fun K "now" "Book.now" sNow f fd) (N : Free mg) (T : BkC K C) : FnOk P w K mg base CX0 1 f fd ["self"] (spNow C) := by
  refine F.ok (k := 0) scNow (fun vs H Q E h => ?_) (fun cdv A outer s H vs Q E hr h => ?_)
  · obtain ⟨p, a, F, B, rfl, _⟩ := h
    rfl
  · obtain ⟨p, a, F, B, rfl, h, q⟩ := h
    have hu := hu_of hr
    refine ⟨_, (pss_one (ps_ret (pe_callB call_len_seq (by rfl) N.len PySem.boot_len (pa_cons (pe_fld (pv 0) rfl) pa_nil)))), ?_⟩
    obtain ⟨dx, ho⟩ := h.ob
    obtain ⟨ps, e1, r1⟩ := h.hd
    refine ⟨_, rfl, p, C, dx, _, _, rfl, ho, T.cl, T.n4, bf_d a, a.d, _, rfl, .inl (SqL.of e1), ?_⟩
    rw [List.length_map, show ps.length = B.ds.length from Paired.length r1]
    exact q
end
section
variable {P : Program} {w : World} {K : PySem.W.Frag} {mg : Str → Option Value} {base : Heap}
theorem scChkKey : FnScope ["self", "key"] ["self", "key"] (defScope sChkKey) := ⟨rfl, rfl, rfl, by decide +kernel, rfl, by decide +kernel, by decide +kernel⟩
theorem ok_chkKey {f C : Addr} {fd : FuncData} (F : Fun K "check_key" "Book.check_key" sChkKey f fd) (T : BkC K C) : FnOk P w K mg base CX0 1 f fd ["self", "key"] (spChkKey C) := by
  refine F.ok (k := 0) scChkKey (fun vs H Q E h => ?_) (fun cdv A outer s H vs Q E hr h => ?_)
  · obtain ⟨p, a, F, B, k, rfl, _⟩ := h
    rfl
  · obtain ⟨p, a, F, B, k, rfl, h, hk, q⟩ := h
    have hu := hu_of hr
    refine ⟨_, (pss_one (ps_if (pt_cmpR op_notIn_seq (pv 1) (pe_fld (pv 0) rfl) (by with_unfolding_all rfl)) (pss_one ps_never) pss_nil)), ?_⟩
    obtain ⟨dx, ho⟩ := h.ob
    refine ⟨_, rfl, _, rfl, p, C, dx, _, _, rfl, ho, T.cl, T.n1, bf_n a, a.n, _, rfl, .inl (SqL.of h.hn), rfl, flat_strs _, _, rfl, ?_⟩
    rw [inV_mem hk]
    exact iteF q
end
section
variable {P : Program} {w : World} {K : PySem.W.Frag} {mg : Str → Option Value} {base : Heap}
theorem scChkNum : FnScope ["self", "number"] ["self", "number"] (defScope sChkNum) := ⟨rfl, rfl, rfl, by decide +kernel, rfl, by decide +kernel, by decide +kernel⟩
theorem ok_chkNum {f C f1 : Addr} {fd : FuncData} (F : Fun K "check_number" "Book.check_number" sChkNum f fd) (N : Free mg) (T : BkC K C) {fd1 : FuncData} (CW : Cal P w K mg base "is_whole" 1 ["thing", "low", "high"] spIsWhole f1 fd1) : FnOk P w K mg base CX0 2 f fd ["self", "number"] (spChkNum C) := by
  refine F.ok (k := 1) scChkNum (fun vs H Q E h => ?_) (fun cdv A outer s H vs Q E hr h => ?_)
  · obtain ⟨p, a, F, B, n, rfl, _⟩ := h
    rfl
  · obtain ⟨p, a, F, B, n, rfl, h, hn, q⟩ := h
    have hu := hu_of hr
    refine ⟨_, (pss_one (ps_if (pt_not (pt_val (pe_call CW.ok (hr.mono (by decide)) rfl CW.nm CW.kp CW.bd .nil pass0 (pa_cons (pv 1) (pa_cons pe_int (pa_cons (pe_op op_sub (pe_callB call_len_seq (by rfl) N.len PySem.boot_len (pa_cons (pe_fld (pv 0) rfl) pa_nil)) pe_int) pa_nil)))))) (pss_one ps_never) pss_nil)), ?_⟩
    obtain ⟨dx, ho⟩ := h.ob
    obtain ⟨ps, e1, r1⟩ := h.hf
    refine ⟨_, rfl, _, rfl, p, C, dx, _, _, rfl, ho, T.cl, T.n2, bf_f a, a.f, _, rfl, .inl (SqL.of e1), _, _, rfl, rfl, n, 0, _, rfl, _, rfl, ?_⟩
    rw [List.length_map, show ps.length = B.fs.length from Paired.length r1, decide_eq_true (show (0 : Int) ≤ n by omega), decide_eq_true (show (n : Int) ≤ (B.fs.length : Int) - 1 by omega)]
    exact iteF q
end
section
variable {P : Program} {w : World} {K : PySem.W.Frag} {mg : Str → Option Value} {base : Heap}
theorem scChkRoom : FnScope ["self"] ["self"] (defScope sChkRoom) := ⟨rfl, rfl, rfl, by decide +kernel, rfl, by decide +kernel, by decide +kernel⟩
theorem ok_chkRoom {f C f1 : Addr} {fd : FuncData} (F : Fun K "check_room" "Book.check_room" sChkRoom f fd) (N : Con mg) (T : BkC K C) {fd1 : FuncData} (MN : MC P w K mg base C "now" 1 ["self"] [] [] (spNow C) f1 fd1) : FnOk P w K mg base CX0 2 f fd ["self"] (spChkRoom C) := by
  obtain ⟨t1, c1⟩ := N.deeds
  refine F.ok (k := 1) scChkRoom (fun vs H Q E h => ?_) (fun cdv A outer s H vs Q E hr h => ?_)
  · obtain ⟨p, a, F, B, rfl, _⟩ := h
    rfl
  · obtain ⟨p, a, F, B, rfl, h, hr6, q⟩ := h
    have hu := hu_of hr
    refine ⟨_, (pss_one (ps_if (pt_cmpR op_ge (pe_meth0 (pv 0) MN.cl MN.mt MN.ok (hr.mono (by decide)) MN.bd MN.dv pass0) (pe_glob (v := .int 60) (by rfl) c1 ⟨_, rfl⟩) (nomark _)) (pss_one ps_never) pss_nil)), ?_⟩
    obtain ⟨dx, ho⟩ := h.ob
    refine ⟨_, rfl, p, dx, _, rfl, ho, bf_no a (by decide +kernel) (by decide +kernel) (by decide +kernel) (by decide +kernel) (by decide +kernel), p, a, F, B, rfl, h, _, _, rfl, rfl, _, rfl, ?_⟩
    rw [decide_eq_false (show ¬ (60 : Int) ≤ B.ds.length by omega)]
    exact iteF q
end
section
variable {P : Program} {w : World} {K : PySem.W.Frag} {mg : Str → Option Value} {base : Heap}
theorem scMeant : FnScope ["self", "turn"] ["self", "turn"] (defScope sMeant) := ⟨rfl, rfl, rfl, by decide +kernel, rfl, by decide +kernel, by decide +kernel⟩
theorem ok_meant {f C f1 f2 : Addr} {fd : FuncData} (F : Fun K "turn_meant" "Book.turn_meant" sMeant f fd) (T : BkC K C) {fd1 : FuncData} (MN : MC P w K mg base C "now" 1 ["self"] [] [] (spNow C) f1 fd1) {fd2 : FuncData} (CW : Cal P w K mg base "is_whole" 1 ["thing", "low", "high"] spIsWhole f2 fd2) : FnOk P w K mg base CX0 2 f fd ["self", "turn"] (spMeant C) := by
  refine F.ok (k := 1) scMeant (fun vs H Q E h => ?_) (fun cdv A outer s H vs Q E hr h => ?_)
  · obtain ⟨p, a, F, B, v, t, rfl, _⟩ := h
    rfl
  · obtain ⟨p, a, F, B, v, t, rfl, h, ht, hv, q⟩ := h
    have hu := hu_of hr
    refine ⟨_, (pss_cons (ps_if (pt_cmp (pc_isN (pv 1))) (pss_one (ps_ret (pe_meth0 (pv 0) MN.cl MN.mt MN.ok (hr.mono (by decide)) MN.bd MN.dv pass0))) pss_nil)
      (pss_cons (ps_if (pt_not (pt_val (pe_call CW.ok (hr.mono (by decide)) rfl CW.nm CW.kp CW.bd .nil pass0 (pa_cons (pv 1) (pa_cons pe_int (pa_cons (pe_meth0 (pv 0) MN.cl MN.mt MN.ok (hr.mono (by decide)) MN.bd MN.dv pass0) pa_nil)))))) (pss_one ps_never) pss_nil)
      (pss_one (ps_ret (pv 1))))), ?_⟩
    obtain ⟨dx, ho⟩ := h.ob
    rcases hv with ⟨rfl, rfl⟩ | rfl
    · exact ⟨_, rfl, _, rfl, iteT ⟨_, rfl, p, dx, _, rfl, ho, bf_no a (by decide +kernel) (by decide +kernel) (by decide +kernel) (by decide +kernel) (by decide +kernel), p, a, F, B, rfl, h, q⟩⟩
    · refine ⟨_, rfl, _, rfl, iteF ⟨_, rfl, _, rfl, p, dx, _, rfl, ho, bf_no a (by decide +kernel) (by decide +kernel) (by decide +kernel) (by decide +kernel) (by decide +kernel), p, a, F, B, rfl, h, t, 0, _, rfl, _, rfl, ?_⟩⟩
      rw [decide_eq_true (show (0 : Int) ≤ t by omega), decide_eq_true (show (t : Int) ≤ B.ds.length by omega)]
      exact iteF ⟨_, rfl, q⟩
end
section
variable {P : Program} {w : World} {K : PySem.W.Frag} {mg : Str → Option Value} {base : Heap}
theorem scDeedAt : FnScope ["self", "turn"] ["self", "turn"] (defScope sDeedAt) := ⟨rfl, rfl, rfl, by decide +kernel, rfl, by decide +kernel, by decide +kernel⟩
theorem ok_deedAt {f C f1 f2 : Addr} {fd : FuncData} (F : Fun K "deed_at" "Book.deed_at" sDeedAt f fd) (T : BkC K C) {fd1 : FuncData} (MN : MC P w K mg base C "now" 1 ["self"] [] [] (spNow C) f1 fd1) {fd2 : FuncData} (CW : Cal P w K mg base "is_whole" 1 ["thing", "low", "high"] spIsWhole f2 fd2) : FnOk P w K mg base CX0 2 f fd ["self", "turn"] (spDeedAt C) := by
  refine F.ok (k := 1) scDeedAt (fun vs H Q E h => ?_) (fun cdv A outer s H vs Q E hr h => ?_)
  · obtain ⟨p, a, F, B, t, d, rfl, _⟩ := h
    rfl
  · obtain ⟨p, a, F, B, t, d, rfl, h, hd, q⟩ := h
    have hu := hu_of hr
    refine ⟨_, (pss_cons (ps_if (pt_not (pt_val (pe_call CW.ok (hr.mono (by decide)) rfl CW.nm CW.kp CW.bd .nil pass0 (pa_cons (pv 1) (pa_cons pe_int (pa_cons (pe_meth0 (pv 0) MN.cl MN.mt MN.ok (hr.mono (by decide)) MN.bd MN.dv pass0) pa_nil)))))) (pss_one ps_never) pss_nil)
      (pss_one (ps_ret (pe_ix ix_list (pe_fld (pv 0) rfl) (pe_op op_sub (pv 1) pe_int) (fun _ _ => rfl))))), ?_⟩
    obtain ⟨dx, ho⟩ := h.ob
    obtain ⟨ps, e1, r1⟩ := h.hd
    have ht := (List.getElem?_eq_some_iff.mp hd).1
    obtain ⟨x, ex, e2⟩ := Deed_get r1 hd
    refine ⟨_, rfl, _, rfl, p, dx, _, rfl, ho, bf_no a (by decide +kernel) (by decide +kernel) (by decide +kernel) (by decide +kernel) (by decide +kernel), p, a, F, B, rfl, h.toT, (t : Int) + 1, 1, _, rfl, _, rfl, ?_⟩
    rw [decide_eq_true (show (1 : Int) ≤ (t : Int) + 1 by omega), decide_eq_true (show (t : Int) + 1 ≤ B.ds.length by omega)]
    refine iteF ⟨_, rfl, p, C, dx, _, _, rfl, ho, T.cl, T.n4, bf_d a, _, rfl, _, _, rfl, rfl, a.d, _, _, V.ref x, rfl, rfl, SqL.of e1, ?_, q x e2⟩
    rw [show (t : Int) + 1 - 1 = (t : Int) by omega]
    exact atI_nat (by rw [List.getElem?_map, ex]; rfl)
end
section
variable {P : Program} {w : World} {K : PySem.W.Frag} {mg : Str → Option Value} {base : Heap}
theorem scFound : FnScope ["self", "number"] ["self", "number"] (defScope sFound) := ⟨rfl, rfl, rfl, by decide +kernel, rfl, by decide +kernel, by decide +kernel⟩
theorem ok_found {f C f1 : Addr} {fd : FuncData} (F : Fun K "found" "Book.found" sFound f fd) (T : BkC K C) {fd1 : FuncData} (MK : MC P w K mg base C "check_number" 2 ["self", "number"] [] [] (spChkNum C) f1 fd1) : FnOk P w K mg base CX0 3 f fd ["self", "number"] (spFound C) := by
  refine F.ok (k := 2) scFound (fun vs H Q E h => ?_) (fun cdv A outer s H vs Q E hr h => ?_)
  · obtain ⟨p, a, F, B, n, r, rfl, _⟩ := h
    rfl
  · obtain ⟨p, a, F, B, n, r, rfl, h, hr1, q⟩ := h
    have hu := hu_of hr
    refine ⟨_, (pss_cons (ps_expr (pe_meth (pv 0) MK.cl MK.mt MK.ok (hr.mono (by decide)) MK.bd MK.dv pass0 (pa_cons (pv 1) pa_nil)))
      (pss_one (ps_ret (pe_op op_catT (pe_ix ix_list (pe_fld (pv 0) rfl) (pv 1) (fun _ _ => rfl)) (pe_tup (pa_cons (pe_dget1 hu (pe_fld (pv 0) rfl) (pv 1) ⟨rfl, rfl, rfl, rfl⟩) pa_nil)))))), ?_⟩
    obtain ⟨dx, ho⟩ := h.ob
    obtain ⟨ps, e1, r1⟩ := h.hf
    have hn := (List.getElem?_eq_some_iff.mp hr1).1
    obtain ⟨x, ex, e2⟩ := Fnd_get r1 hr1
    refine ⟨_, rfl, p, dx, _, rfl, ho, bf_no a (by decide +kernel) (by decide +kernel) (by decide +kernel) (by decide +kernel) (by decide +kernel), _, rfl, p, a, F, B, n, rfl, h, hn, ?_⟩
    refine ⟨_, rfl, p, C, dx, _, _, rfl, ho, T.cl, T.n2, bf_f a, _, rfl, a.f, _, _, V.ref x, rfl, rfl, SqL.of e1, atI_nat (by rw [List.getElem?_map, ex]; rfl), ?_⟩
    refine ⟨_, rfl, p, C, dx, _, _, rfl, ho, T.cl, T.n3, bf_w a, a.w, rfl, .inl ⟨_, .inl h.hw⟩, _, rfl, _, DGet.k (k := Sum.inl (n : Int)) h.hw, by show 1 ≤ sizeLine; decide, fun y ny => ?_⟩
    refine ⟨x, y, _, _, rfl, rfl, SqT.of (by rw [upd_ne (ne_of_none e2 ny)]; exact e2), SqT.of upd_same, (by intro z; cases z), by show 6 ≤ sizeLine; decide, (fun z => by cases z), fun _ z nz => ?_⟩
    exact q z _ ((Grow.new ny).trans (Grow.new nz)) upd_same
end
section
variable {P : Program} {w : World} {K : PySem.W.Frag} {mg : Str → Option Value} {base : Heap}
theorem scTable : FnScope ["self", "key", "turn"] ["self", "key", "turn"] (defScope sTable) := ⟨rfl, rfl, rfl, by decide +kernel, rfl, by decide +kernel, by decide +kernel⟩
theorem ok_table {f C f1 f2 : Addr} {fd : FuncData} {dV : Value} (F : FunD K "table" "Book.table" sTable dV f fd) (N : Free mg) (T : BkC K C) {fd1 : FuncData} (MY : MC P w K mg base C "check_key" 1 ["self", "key"] [] [] (spChkKey C) f1 fd1) {fd2 : FuncData} (MT : MC P w K mg base C "turn_meant" 2 ["self", "turn"] [] [] (spMeant C) f2 fd2) : FnOk P w K mg base CX0 3 f fd ["self", "key", "turn"] (spTable C) := by
  refine F.ok (k := 2) scTable (fun vs H Q E h => ?_) (fun cdv A outer s H vs Q E hr h => ?_)
  · obtain ⟨p, a, F, B, k, v, t, rfl, _⟩ := h
    rfl
  · obtain ⟨p, a, F, B, k, v, t, rfl, h, hk, ht, hv, q⟩ := h
    have hu := hu_of hr
    refine ⟨_, (pss_cons (ps_expr (pe_meth (pv 0) MY.cl MY.mt MY.ok (hr.mono (by decide)) MY.bd MY.dv pass0 (pa_cons (pv 1) pa_nil)))
      (pss_one (ps_ret (pe_callTy call_list_of (by rfl) N.list PyProof.Rows.Boot.«list» (pa_cons (pe_dget hu (pe_ix ix_list (pe_fld (pv 0) rfl) (pe_meth (pv 0) MT.cl MT.mt MT.ok (hr.mono (by decide)) MT.bd MT.dv pass0 (pa_cons (pv 2) pa_nil)) (fun _ _ => rfl)) (pv 1) (fun _ _ => rfl)) pa_nil))))), ?_⟩
    obtain ⟨dx, ho⟩ := h.ob
    obtain ⟨ts, x, kvs, ra, rs, e1, e2, e3, e4, R, lt⟩ := h.tab ht hk
    obtain ⟨ps, e5, r5⟩ := R.rl
    refine ⟨_, rfl, p, dx, _, rfl, ho, bf_no a (by decide +kernel) (by decide +kernel) (by decide +kernel) (by decide +kernel) (by decide +kernel), _, rfl, p, a, F, B, k, rfl, h, hk, ?_⟩
    refine ⟨_, rfl, p, C, dx, _, _, rfl, ho, T.cl, T.n5, bf_t a, _, rfl, p, dx, _, rfl, ho, bf_no a (by decide +kernel) (by decide +kernel) (by decide +kernel) (by decide +kernel) (by decide +kernel), _, rfl, p, a, F, B, v, t, rfl, h, ht, hv, ?_⟩
    refine ⟨a.t, _, _, V.ref x, rfl, rfl, SqL.of e1, atI_nat (by rw [List.getElem?_map, e2]; rfl), _, rfl, x, V.ref ra, rfl, ?_, ?_⟩
    · have := DGet.k (k := Sum.inr k) e3
      rw [e4] at this
      exact this
    · exact ⟨ra, _, rfl, .inl (SqL.of e5), fun l nl => q l ps rs nl r5 R.td R.i4 R.dy⟩
end
end Mine
namespace Mine
open PySem L2
abbrev sKnown : Stmt := inClass (top 29) 14
abbrev sTake : Stmt := inClass (top 29) 15
abbrev sFind : Stmt := inClass (top 29) 3
abbrev sWithd : Stmt := inClass (top 29) 4
theorem lastN_step {fs : List Fnd} {i : Nat} {f : Fnd} (e : fs[i]? = some f) (c : Nat → Fnd → Bool) : lastN fs c (i + 1) = if c i f = true then some (i : Int) else lastN fs c i := by
  show (match fs[i]? with | some f => if c i f = true then some (i : Int) else lastN fs c i | none => lastN fs c i) = _
  rw [e]
def spKnown (C T : Addr) : Sp := fun vs H Q _ => ∃ (p : Addr) (a : BA) (k : Str) (fs : List Fnd) (gs : List (Key × V)) (dx : Addr) (ps : List Addr), vs = [.ref p, .str k] ∧ H p = some (.ins C dx (bflds a)) ∧ H a.f = some (.lst (ps.map V.ref)) ∧ FndP H ps fs ∧ H a.w = some (.dK gs) ∧
  (∀ f ∈ fs, 0 ≤ f.2.1 ∧ f.2.1 ≤ f.2.2.1 ∧ f.2.2.1 < 400) ∧ Lm T H ∧ ∀ (l : Addr) (rs : List RowV) (H' : Hp), H l = none → Gm T H H' → RowsL H' l rs → Strip.Tidy rs → In400 rs → (∀ x, Strip.dayOf rs x = (lastN fs (nowB gs k x) fs.length).map V.int) → Q (.ref l) H'
theorem keepG {T : Addr} {H H' : Hp} (g : Gm T H H') (L : Lm T H) {b : Addr} {o : HO} (e : H b = some o) (n : ∀ ps, o ≠ .tbl ps := by intro _ z; cases z) : H' b = some o := g.at L e n
section
variable {P : Program} {w : World} {K : PySem.W.Frag} {mg : Str → Option Value} {base : Heap}
theorem scKnown : FnScope ["self", "key", "strip", "number", "finding"] ["self", "key"] (defScope sKnown) := ⟨rfl, rfl, rfl, by decide +kernel, rfl, by decide +kernel, by decide +kernel⟩
theorem ok_known {f C L f1 : Addr} {fd : FuncData} (F : Fun K "table_of_known" "Book.table_of_known" sKnown f fd) (N : Free mg) (T : BkC K C) {fd1 : FuncData} (CL : Cal P w K mg base "laid" 4 ["strip", "first", "last", "mark"] (spLaid L) f1 fd1) : FnOk P w K mg base CX0 5 f fd ["self", "key"] (spKnown C L) := by
  refine F.ok (k := 4) scKnown (fun vs H Q E h => ?_) (fun cdv A outer s H vs Q E hr h => ?_)
  · obtain ⟨p, a, k, fs, gs, dx, ps, rfl, _⟩ := h
    rfl
  · obtain ⟨p, a, k, fs, gs, dx, ps, rfl, ho, e1, r1, e2, hin, LL, q⟩ := h
    have hu := hu_of hr
    refine ⟨_, (pss_cons (ps_set (i := 2) scKnown.nd rfl (Or.inl rfl) (pe_lst pa_nil))
      (pss_cons (ps_for PassesOwn.never rfl (pi_enum rfl N.enumerate (pa_cons (pe_fld (pv 0) rfl) pa_nil)) (pg_tup rfl (pgs_cons (pg_name (i := 3) scKnown.nd rfl (Or.inl rfl)) (pgs_cons (pg_name (i := 4) scKnown.nd rfl (Or.inl rfl)) pgs_nil)))
      (pss_one (ps_if (PW.pt (pw_and (pt_cmpR op_eq (pe_ix ix_tup (pv 4) pe_int (fun _ _ => rfl)) (pv 1) (nomark _)) (pw_and1 (pt_cmp (pc_dnotin hu (pv 3) (pe_fld (pv 0) rfl)))))) (pss_one (ps_set (i := 2) scKnown.nd rfl (Or.inl rfl) (pe_call CL.ok (hr.mono (by decide)) rfl CL.nm CL.kp CL.bd .nil pass0 (pa_cons (pv 2) (pa_cons (pe_ix ix_tup (pv 4) pe_int (fun _ _ => rfl)) (pa_cons (pe_ix ix_tup (pv 4) pe_int (fun _ _ => rfl)) (pa_cons (pv 3) pa_nil))))))) pss_nil)))
      (pss_one (ps_ret (pv 2))))), ?_⟩
    have hlp : ps.length = fs.length := Paired.length r1
    refine ⟨Nat.zero_le _, fun st nst => ?_⟩
    have g0 : Gm L H (upd H st (.lst [])) := Go.new LL nst
    have ho0 := keepG g0 LL ho
    refine ⟨_, rfl, p, C, dx, _, _, rfl, ho0, T.cl, T.n2, bf_f a, a.f, rfl, ⟨_, SqL.of (g0.lst LL e1)⟩, for_enum (K := K) (a := a.f) (xs := ps.map V.ref) (fun i σ H2 => ∃ (l : Addr) (rs : List RowV) (v3 v4 : Option V), σ = [some (.ref p), some (.str k), some (.ref l), v3, v4] ∧ H l = none ∧ Gm L H H2 ∧ RowsL H2 l rs ∧ Strip.Tidy rs ∧ In400 rs ∧ ∀ x, Strip.dayOf rs x = (lastN fs (nowB gs k x) i).map V.int)
      ⟨st, [], none, none, rfl, nst, g0, rowsL_nil upd_same, Strip.tidy_nil, (fun _ h => nomatch h), fun x => rfl⟩ (fun i σ H2 _ hh => ?_) ?_ ?_⟩
    · obtain ⟨_, _, _, _, _, _, g, _⟩ := hh
      exact SqL.of (g.lst LL e1)
    · rintro i y σ H2 t hi ⟨l, rs, v3, v4, rfl, nl, g2, hrs, td, i4, dy⟩ nt
      rw [List.getElem?_map] at hi
      cases ep : ps[i]? with
      | none => rw [ep] at hi; cases hi
      | some x =>
        rw [ep] at hi
        cases hi
        obtain ⟨r, er, ht0⟩ := paired_get r1 ep
        have hil : i < fs.length := (List.getElem?_eq_some_iff.mp er).1
        obtain ⟨h0, h1, h2⟩ := hin r (List.mem_of_getElem? er)
        have few := rows_few td.up i4
        have g3 : Gm L H2 (upd H2 t (.tup [.int (i : Int), .ref x])) := Go.new g2.lam nt
        have g23 := g2.trans g3
        have ht := g23.tup LL ht0
        have hrs3 := g3.rows g2.lam hrs
        have ho3 := keepG g23 LL ho
        have e23 := g23.dK LL e2
        refine ⟨t, _, rfl, SqT.of upd_same, rfl, _, _, rfl, _, _, rfl, rfl, ?_⟩
        have skip : (∀ d, nowB gs k d i r = false) → ∃ (l' : Addr) (rs : List RowV) (v3 v4 : Option V), [some (V.ref p), some (.str k), some (.ref l), some (.int (i : Int)), some (.ref x)] = [some (.ref p), some (.str k), some (.ref l'), v3, v4] ∧ H l' = none ∧ Gm L H (upd H2 t (.tup [.int (i : Int), .ref x])) ∧ RowsL (upd H2 t (.tup [.int (i : Int), .ref x])) l' rs ∧ Strip.Tidy rs ∧ In400 rs ∧ ∀ x, Strip.dayOf rs x = (lastN fs (nowB gs k x) (i + 1)).map V.int := fun hn => by
          refine ⟨l, rs, _, _, rfl, nl, g23, hrs3, td, i4, fun d => ?_⟩
          rw [lastN_step er, hn d, if_neg (by decide)]
          exact dy d
        refine ⟨_, rfl, x, _, 0, V.str r.1, rfl, rfl, SqT.of ht, rfl, _, rfl, rfl, _, rfl, ite2 (fun hk => ?_) (fun hk => iteF (skip fun d => ?_))⟩
        · have hk : r.1 = k := by
            have := of_decide_eq_true hk
            injection this
          refine ⟨_, rfl, _, rfl, p, C, dx, _, _, rfl, ho3, T.cl, T.n3, bf_w a, a.w, _, rfl, DGet.k (k := Sum.inl (i : Int)) e23, _, rfl, ?_⟩
          cases eg : valV gs (Sum.inl (i : Int)) with
          | some v =>
            refine iteF (skip fun d => ?_)
            unfold nowB
            rw [eg, show (some v : Option V).isNone = false from rfl, Bool.false_and, Bool.and_false]
          | none =>
            refine iteT ⟨_, rfl, _, rfl, x, _, 1, V.int r.2.1, rfl, rfl, SqT.of ht, rfl, _, rfl, x, _, 2, V.int r.2.2.1, rfl, rfl, SqT.of ht, rfl, _, rfl, ?_⟩
            refine ⟨l, r.2.1, r.2.2.1, (i : Int), rs, rfl, g23.lam, hrs3, td.up.disj, i4, few, h0, h1, h2, fun c acc H4 nc g4 hacc td4 dy4 i44 _ => ?_⟩
            refine ⟨c, acc, _, _, rfl, Gm.free g23 nc, g23.trans g4, hacc, td4, i44, fun d => ?_⟩
            rw [dy4, lastN_step er]
            unfold Strip.laidG nowB
            rw [eg, decide_eq_true hk, show (none : Option V).isNone = true from rfl, Bool.true_and, Bool.true_and]
            by_cases hd : r.2.1 ≤ d ∧ d ≤ r.2.2.1
            · rw [if_pos hd, decide_eq_true hd.1, decide_eq_true hd.2]
              rfl
            · rw [if_neg hd, if_neg (by rw [← Bool.decide_and, decide_eq_false hd]; decide)]
              exact dy d
        · have hk : ¬ r.1 = k := fun z => hk (decide_eq_true (by rw [z]))
          unfold nowB
          rw [decide_eq_false hk, Bool.false_and]
    · rintro σ H2 ⟨l, rs, v3, v4, rfl, nl, g2, hrs, td, i4, dy⟩
      rw [List.length_map, hlp] at dy
      exact ⟨_, rfl, q l rs H2 nl g2 hrs td i4 dy⟩
end
end Mine
namespace Mine
open PySem L2
structure Half (C : Addr) (H : Hp) (p : Addr) (a : BA) (F : Addr → Prop) (B B' : Bk) (n : Nat) (r : Fnd) (word : Str) : Prop where
  t : BkT C H p a F B
  hf : ∃ ps, H a.f = some (.lst (ps.map V.ref)) ∧ FndP H ps B'.fs
  hw : H a.w = some (.dK B'.gs)
  fa : F a.n ∧ F a.f ∧ F a.w ∧ F a.d ∧ F a.t
  nn : ¬ a.M a.n
  fd : a.f ≠ a.d
  ft : a.f ≠ a.t
  dt : a.d ≠ a.t
  ks : B'.ks = B.ks
  ds : B'.ds = B.ds ++ [(word, (n : Int))]
  ok : B'.Ok
  hr : B'.fs[n]? = some r
  old : ∀ k (t : Int) d, t ≤ B.ds.length → B'.spk k t d = B.spk k t d
  oth : ∀ k d, k ≠ r.1 → B'.spk k ((B.ds.length : Int) + 1) d = B.spk k B.ds.length d
theorem Half.tupM {C : Addr} {H : Hp} {p : Addr} {a : BA} {F : Addr → Prop} {B B' : Bk} {n : Nat} {r : Fnd} {word : Str} (h : Half C H p a F B B' n r word) : ∀ b xs, H b = some (.tup xs) → ¬ a.M b := fun b xs e z => by
  obtain ⟨ps, e1, _⟩ := h.hf
  obtain ⟨qs, e2, _⟩ := h.t.hd
  obtain ⟨ts, e3, _, _⟩ := h.t.ht
  rcases z with z | z | z | z
  · rw [z, e1] at e; cases e
  · rw [z, h.hw] at e; cases e
  · rw [z, e2] at e; cases e
  · rw [z, e3] at e; cases e
def spTake (C : Addr) : Sp := fun vs H Q _ => ∃ (p : Addr) (a : BA) (F : Addr → Prop) (B B' : Bk) (n : Nat) (r : Fnd) (word : Str) (st : Addr) (rs : List RowV), vs = [.ref p, .str word, .int (n : Int), .ref st] ∧ Half C H p a F B B' n r word ∧ RowsL H st rs ∧ ¬ a.M st ∧ Strip.Tidy rs ∧ In400 rs ∧
  (∀ x, Strip.dayOf rs x = (B'.spk r.1 ((B.ds.length : Int) + 1) x).map V.int) ∧
  ∀ (H' : Hp) (F' : Addr → Prop), (∀ b, F b → F' b) → (∀ b, F' b → F b ∨ b = st ∨ H b = none) → (∀ b o, H b = some o → b ≠ a.d → b ≠ a.t → H' b = some o) → BkAt C H' p a F' B' → Q .non H'
section
variable {P : Program} {w : World} {K : PySem.W.Frag} {mg : Str → Option Value} {base : Heap}
theorem scTake : FnScope ["self", "word", "number", "strip", "tables"] ["self", "word", "number", "strip"] (defScope sTake) := ⟨rfl, rfl, rfl, by decide +kernel, rfl, by decide +kernel, by decide +kernel⟩
theorem ok_take {f C : Addr} {fd : FuncData} (F : Fun K "take_deed" "Book.take_deed" sTake f fd) (N : Free mg) (T : BkC K C) : FnOk P w K mg base CX0 1 f fd ["self", "word", "number", "strip"] (spTake C) := by
  refine F.ok (k := 0) scTake (fun vs H Q E h => ?_) (fun cdv A outer s H vs Q E hr h => ?_)
  · obtain ⟨p, a, F, B, B', n, r, word, st, rs, rfl, _⟩ := h
    rfl
  · obtain ⟨p, a, F, B, B', n, r, word, st, rs, rfl, h, hrs, stM, td, i4, dy, q⟩ := h
    have hu := hu_of hr
    refine ⟨_, (pss_cons (ps_set (i := 4) scTake.nd rfl (Or.inl rfl) (pe_callTy call_dict_of (by rfl) N.dict PyProof.Rows.Boot.«dict» (pa_cons (pe_ix ix_list (pe_fld (pv 0) rfl) (pe_un un_neg pe_int) (fun _ _ => rfl)) pa_nil)))
      (pss_cons (ps_dput hu (pv 4) (pe_ix ix_tup (pe_ix ix_list (pe_fld (pv 0) rfl) (pv 2) (fun _ _ => rfl)) pe_int (fun _ _ => rfl)) (pv 3) rfl)
      (pss_cons (ps_expr (pe_bm PySem.F.plainAttrs_list PySem.F.slot_list_append PySem.F.type_list_append mt_append (pe_fld (pv 0) rfl) (pa_cons (pv 4) pa_nil)))
      (pss_one (ps_expr (pe_bm PySem.F.plainAttrs_list PySem.F.slot_list_append PySem.F.type_list_append mt_append (pe_fld (pv 0) rfl) (pa_cons (pe_tup (pa_cons (pv 1) (pa_cons (pv 2) pa_nil))) pa_nil))))))), ?_⟩
    obtain ⟨dx, ho⟩ := h.t.ob
    obtain ⟨ps, e1, r1⟩ := h.hf
    obtain ⟨qs, e2, r2⟩ := h.t.hd
    obtain ⟨ts, e3, l3, r3⟩ := h.t.ht
    have z60 := h.ok.dsz
    rw [h.ds, List.length_append] at z60
    have z60 : B.ds.length + 1 ≤ 60 := z60
    obtain ⟨t0, x, rfl⟩ : ∃ t0 x, ts = t0 ++ [x] := by
      rcases List.eq_nil_or_concat ts with e | ⟨t0, x, e⟩
      · rw [e] at l3; simp at l3
      · exact ⟨t0, x, by rw [e, List.concat_eq_append]⟩
    have l0 : t0.length = B.ds.length := by rw [List.length_append] at l3; simpa using l3
    have hx : (t0 ++ [x])[B.ds.length]? = some x := by rw [← l0]; simp
    have TX := r3 _ x hx
    obtain ⟨kvs, ex, kl, kk⟩ := TX.ex
    obtain ⟨y0, ey, e4⟩ := Fnd_get r1 h.hr
    have elm : (t0 ++ [x]).map V.ref = t0.map V.ref ++ [V.ref x] := by rw [List.map_append]; rfl
    refine ⟨_, rfl, p, C, dx, _, _, rfl, ho, T.cl, T.n5, bf_t a, _, rfl, a.t, _, -1, V.ref x, rfl, rfl, SqL.of e3, by rw [elm]; exact atI_last _ _, x, kvs, rfl, ex, fun y ny => ?_⟩
    have old : ∀ {b : Addr} {o o' : HO}, H b = some o → (upd H y o') b = some o := fun e => by rw [upd_ne (ne_of_none e ny)]; exact e
    refine ⟨_, rfl, _, rfl, _, rfl, p, C, dx, _, _, rfl, old ho, T.cl, T.n2, bf_f a, _, rfl, a.f, _, _, V.ref y0, rfl, rfl, SqL.of (old e1), atI_nat (by rw [List.getElem?_map, ey]; rfl), y0, _, 0, V.str r.1, rfl, rfl, SqT.of (old e4), rfl, y, _, rfl, DPut.k (k := Sum.inr r.1) upd_same (small1000 (by omega)), ?_⟩
    rw [upd_upd]
    refine ⟨_, rfl, p, C, dx, _, _, rfl, old ho, T.cl, T.n5, bf_t a, .inl ⟨rfl, _, SqL.of (old e3)⟩, _, rfl, a.t, _, _, rfl, rfl, old e3, ?_, ?_⟩
    · rw [List.length_map]
      exact small1000 (by rw [l3]; omega)
    have dT : p ≠ a.t := ne_of ho e3 (by intro z; cases z)
    have dD : p ≠ a.d := ne_of ho e2 (by intro z; cases z)
    refine ⟨_, rfl, p, C, dx, _, _, rfl, by rw [upd_ne dT]; exact old ho, T.cl, T.n4, bf_d a, .inl ⟨rfl, _, SqL.of (by rw [upd_ne h.dt]; exact old e2)⟩, _, rfl, _, rfl, by show 2 ≤ sizeLine; decide, fun w nw => ?_⟩
    have nw1 : H w = none := by
      by_cases z : w = a.t
      · rw [z, upd_same] at nw; cases nw
      · rw [upd_ne z] at nw
        by_cases z2 : w = y
        · rw [z2, upd_same] at nw; cases nw
        · rw [upd_ne z2] at nw; exact nw
    have wy : w ≠ y := fun z => by
      by_cases z' : w = a.t
      · rw [z', upd_same] at nw; cases nw
      · rw [upd_ne z', z, upd_same] at nw; cases nw
    have aw : a.d ≠ w := fun z => by rw [← z, e2] at nw1; cases nw1
    refine ⟨a.d, _, _, rfl, rfl, by rw [upd_ne aw, upd_ne h.dt]; exact old e2, ?_, ?_⟩
    · rw [List.length_map, show qs.length = B.ds.length from Paired.length r2]
      exact small1000 (by omega)
    have st5 : ∀ b o, H b = some o → b ≠ a.d → b ≠ a.t → upd (upd (upd (upd H y (.dK (putK kvs (Sum.inr r.1) (.ref st)))) a.t (.lst ((t0 ++ [x]).map V.ref ++ [V.ref y]))) w (.tup [.str word, .int (n : Int)])) a.d (.lst (qs.map V.ref ++ [V.ref w])) b = some o := fun b o e n1 n2 => by
      rw [upd_ne n1, upd_ne (ne_of_none e nw1), upd_ne n2]
      exact old e
    have M5 : KeepM H _ a := ⟨fun b o nb e => st5 b o e (fun z => nb (.inr (.inr (.inl z)))) fun z => nb (.inr (.inr (.inr z)))⟩
    have tup5 := M5.tup h.tupM
    have yM : ¬ a.M y := fun z => by
      rcases z with z | z | z | z
      · rw [z, e1] at ny; cases ny
      · rw [z, h.hw] at ny; cases ny
      · rw [z, e2] at ny; cases ny
      · rw [z, e3] at ny; cases ny
    have yd : y ≠ a.d := fun z => yM (.inr (.inr (.inl z)))
    have yt : y ≠ a.t := fun z => yM (.inr (.inr (.inr z)))
    obtain ⟨f1, f2, f3, f4, f5⟩ := h.fa
    have wd : a.w ≠ a.d := ne_of h.hw e2 (by intro z; cases z)
    have wt : a.w ≠ a.t := ne_of h.hw e3 (by intro z; cases z)
    refine q _ (fun b => F b ∨ b = st ∨ b = y) (fun b z => .inl z) (fun b z => ?_) st5 ⟨⟨dx, st5 _ _ ho dD dT⟩, by rw [h.ks]; exact M5.own _ _ h.nn h.t.hn, ⟨ps, st5 _ _ e1 h.fd h.ft, Paired.mapP r1 fun _ _ e => tup5 _ _ e⟩, st5 _ _ h.hw wd wt, ⟨qs ++ [w], ?_, ?_⟩, ⟨t0 ++ [x] ++ [y], ?_, ?_, fun i z hz => ?_⟩, ⟨.inl f1, .inl f2, .inl f3, .inl f4, .inl f5⟩, h.nn, h.fd, h.ft, h.dt, h.ok⟩
    · rcases z with z | z | z
      · exact .inl z
      · exact .inr (.inl z)
      · exact .inr (.inr (by rw [z]; exact ny))
    · rw [upd_same, List.map_append]; rfl
    · rw [h.ds]
      have hw5 : upd (upd (upd (upd H y (.dK (putK kvs (Sum.inr r.1) (.ref st)))) a.t (.lst ((t0 ++ [x]).map V.ref ++ [V.ref y]))) w (.tup [.str word, .int (n : Int)])) a.d (.lst (qs.map V.ref ++ [V.ref w])) w = some (.tup (tupD (word, (n : Int)))) := by
        rw [upd_ne (Ne.symm aw), upd_same]; rfl
      exact paired_snoc (Paired.mapP r2 fun _ _ e => tup5 _ _ e) hw5
    · rw [upd_ne (Ne.symm h.dt), upd_ne (fun z => by rw [← z, e3] at nw1; cases nw1), upd_same, List.map_append (l₁ := t0 ++ [x])]; rfl
    · rw [List.length_append, l3, h.ds, List.length_append]; rfl
    · by_cases hi : i < (t0 ++ [x]).length
      · rw [List.getElem?_append_left hi] at hz
        exact ((r3 i z hz).keepM M5 h.tupM).other (fun b z => .inl z) h.ks fun k d => h.old k i d (by omega)
      · have hi2 : i = B.ds.length + 1 := by
          have := (List.getElem?_eq_some_iff.mp hz).1
          rw [List.length_append] at this
          have : i < (t0 ++ [x]).length + 1 := this
          omega
        have ez : z = y := by
          rw [List.getElem?_append_right (by omega), hi2, l3, Nat.sub_self] at hz
          exact (Option.some.inj hz).symm
        subst ez hi2
        refine ⟨.inr (.inr rfl), yM, putK kvs (Sum.inr r.1) (.ref st), ?_, ?_, fun k hk => ?_⟩
        · rw [upd_ne yd, upd_ne (Ne.symm wy), upd_ne yt, upd_same]
        · have := length_putK kvs (Sum.inr r.1) (V.ref st); omega
        · rw [h.ks] at hk
          by_cases ek : k = r.1
          · subst ek
            refine ⟨st, rs, by rw [valV_put, if_pos rfl], .inr (.inl rfl), stM, rowsL_mono hrs (fun xs e => M5.own _ _ stM e) tup5, td, i4, dy⟩
          · obtain ⟨ra, rs', e5, R⟩ := kk k hk
            have R5 := R.keepM M5 h.tupM
            refine ⟨ra, rs', by rw [valV_put, if_neg (fun z => ek (Sum.inr.inj z))]; exact e5, .inl R5.fp, R5.nm, R5.rl, R5.td, R5.i4, fun d => ?_⟩
            have := h.oth k d ek
            rw [R5.dy]
            exact congrArg (Option.map V.int) this.symm
end
end Mine
namespace Mine
open PySem L2
theorem bk_tupM {C : Addr} {H : Hp} {p : Addr} {a : BA} {F : Addr → Prop} {B : Bk} (h : BkAt C H p a F B) : ∀ b xs, H b = some (.tup xs) → ¬ a.M b := fun b xs e z => by
  obtain ⟨ps, e1, _⟩ := h.hf
  obtain ⟨qs, e2, _⟩ := h.hd
  obtain ⟨ts, e3, _, _⟩ := h.ht
  rcases z with z | z | z | z
  · rw [z, e1] at e; cases e
  · rw [z, h.hw] at e; cases e
  · rw [z, e2] at e; cases e
  · rw [z, e3] at e; cases e
theorem bk_insM {C : Addr} {H : Hp} {p : Addr} {a : BA} {F : Addr → Prop} {B : Bk} (h : BkAt C H p a F B) : ∀ b c dx fs, H b = some (.ins c dx fs) → ¬ a.M b := fun b c dx fs e z => by
  obtain ⟨ps, e1, _⟩ := h.hf
  obtain ⟨qs, e2, _⟩ := h.hd
  obtain ⟨ts, e3, _, _⟩ := h.ht
  rcases z with z | z | z | z
  · rw [z, e1] at e; cases e
  · rw [z, h.hw] at e; cases e
  · rw [z, e2] at e; cases e
  · rw [z, e3] at e; cases e
theorem bk_noM {C : Addr} {H : Hp} {p : Addr} {a : BA} {F : Addr → Prop} {B : Bk} (h : BkAt C H p a F B) {b : Addr} (e : H b = none) : ¬ a.M b := fun z => by
  obtain ⟨ps, e1, _⟩ := h.hf
  obtain ⟨qs, e2, _⟩ := h.hd
  obtain ⟨ts, e3, _, _⟩ := h.ht
  rcases z with z | z | z | z
  · rw [z, e1] at e; cases e
  · rw [z, h.hw] at e; cases e
  · rw [z, e2] at e; cases e
  · rw [z, e3] at e; cases e
theorem bkT_keep {C : Addr} {H H' : Hp} {p : Addr} {a : BA} {F : Addr → Prop} {B : Bk} (h : BkAt C H p a F B) (g : KeepM H H' a) (ed : ∀ xs, H a.d = some (.lst xs) → H' a.d = some (.lst xs)) (et : ∀ xs, H a.t = some (.lst xs) → H' a.t = some (.lst xs)) : BkT C H' p a F B := by
  obtain ⟨dx, e0⟩ := h.ob
  obtain ⟨qs, e2, r2⟩ := h.hd
  obtain ⟨ts, e3, l3, r3⟩ := h.ht
  exact ⟨⟨dx, g.own _ _ (bk_insM h _ _ _ _ e0) e0⟩, g.own _ _ h.nn h.hn, ⟨qs, ed _ e2, Paired.mapP r2 fun _ _ e => g.tup (bk_tupM h) _ _ e⟩, ⟨ts, et _ e3, l3, fun i x e => (r3 i x e).keepM g (bk_tupM h)⟩⟩
theorem lam_keep {T : Addr} {H H' : Hp} (L : Lm T H) (k : ∀ b o, H b = some o → (∀ xs, o ≠ .lst xs) → (∀ xs, o ≠ .dK xs) → H' b = some o) : Lm T H' := by
  rcases L with e | ⟨c, e1, e2⟩
  · exact .inl (k _ _ e (by intro _ z; cases z) (by intro _ z; cases z))
  · exact .inr ⟨c, k _ _ e1 (by intro _ z; cases z) (by intro _ z; cases z), k _ _ e2 (by intro _ z; cases z) (by intro _ z; cases z)⟩
end Mine
namespace Mine
open PySem L2
def spWithd (C L : Addr) : Sp := fun vs H Q _ => ∃ (p : Addr) (a : BA) (F : Addr → Prop) (B : Bk) (n : Nat) (r : Fnd), vs = [.ref p, .int (n : Int)] ∧ Lm L H ∧ BkAt C H p a F B ∧ B.fs[n]? = some r ∧ valV B.gs (Sum.inl (n : Int)) = none ∧ B.ds.length < 60 ∧
  ∀ (H' : Hp) (F' : Addr → Prop), Lm L H' → (∀ b, F b → F' b) → (∀ b, F' b → F b ∨ H b = none) → (∀ b o, H b = some o → b ≠ L → ¬ a.M b → H' b = some o) → BkAt C H' p a F' (B.withd n) → Q .non H'
section
variable {P : Program} {w : World} {K : PySem.W.Frag} {mg : Str → Option Value} {base : Heap}
theorem scWithd : FnScope ["self", "number"] ["self", "number"] (defScope sWithd) := ⟨rfl, rfl, rfl, by decide +kernel, rfl, by decide +kernel, by decide +kernel⟩
theorem ok_withd {f C L f1 f2 f3 f4 f5 : Addr} {fd : FuncData} (F : Fun K "withdraw" "Book.withdraw" sWithd f fd) (T : BkC K C) {fd1 : FuncData} (MK : MC P w K mg base C "check_number" 2 ["self", "number"] [] [] (spChkNum C) f1 fd1) {fd2 : FuncData} (MR : MC P w K mg base C "check_room" 2 ["self"] [] [] (spChkRoom C) f2 fd2) {fd3 : FuncData} (MN : MC P w K mg base C "now" 1 ["self"] [] [] (spNow C) f3 fd3) {fd4 : FuncData} (MD : MC P w K mg base C "take_deed" 1 ["self", "word", "number", "strip"] [] [] (spTake C) f4 fd4) {fd5 : FuncData} (MW : MC P w K mg base C "table_of_known" 5 ["self", "key"] [] [] (spKnown C L) f5 fd5) : FnOk P w K mg base CX0 6 f fd ["self", "number"] (spWithd C L) := by
  refine F.ok (k := 5) scWithd (fun vs H Q E h => ?_) (fun cdv A outer s H vs Q E hr h => ?_)
  · obtain ⟨p, a, F, B, n, r, rfl, _⟩ := h
    rfl
  · obtain ⟨p, a, F, B, n, r, rfl, LL, h, hr1, hg, h60, q⟩ := h
    have hu := hu_of hr
    refine ⟨_, (pss_cons (ps_expr (pe_meth (pv 0) MK.cl MK.mt MK.ok (hr.mono (by decide)) MK.bd MK.dv pass0 (pa_cons (pv 1) pa_nil)))
      (pss_cons (ps_if (pt_cmp (pc_din hu (pv 1) (pe_fld (pv 0) rfl))) (pss_one ps_never) pss_nil)
      (pss_cons (ps_expr (pe_meth0 (pv 0) MR.cl MR.mt MR.ok (hr.mono (by decide)) MR.bd MR.dv pass0))
      (pss_cons (ps_dput hu (pe_fld (pv 0) rfl) (pv 1) (pe_op op_add (pe_meth0 (pv 0) MN.cl MN.mt MN.ok (hr.mono (by decide)) MN.bd MN.dv pass0) pe_int) rfl)
      (pss_one (ps_expr (pe_meth (pv 0) MD.cl MD.mt MD.ok (hr.mono (by decide)) MD.bd MD.dv pass0 (pa_cons pe_str (pa_cons (pv 1) (pa_cons (pe_meth (pv 0) MW.cl MW.mt MW.ok (hr.mono (by decide)) MW.bd MW.dv pass0 (pa_cons (pe_ix ix_tup (pe_ix ix_list (pe_fld (pv 0) rfl) (pv 1) (fun _ _ => rfl)) pe_int (fun _ _ => rfl)) pa_nil)) pa_nil)))))))))), ?_⟩
    obtain ⟨dx, ho⟩ := h.ob
    obtain ⟨ps, e1, r1⟩ := h.hf
    obtain ⟨qs, e2, r2⟩ := h.hd
    obtain ⟨ts, e3, l3, r3⟩ := h.ht
    obtain ⟨y0, ey, e4⟩ := Fnd_get r1 hr1
    have hn := (List.getElem?_eq_some_iff.mp hr1).1
    have gsz := h.ok.gsz
    refine ⟨_, rfl, p, dx, _, rfl, ho, bf_no a (by decide +kernel) (by decide +kernel) (by decide +kernel) (by decide +kernel) (by decide +kernel), _, rfl, p, a, F, B, n, rfl, h, hn, ?_⟩
    refine ⟨_, rfl, _, rfl, p, C, dx, _, _, rfl, ho, T.cl, T.n3, bf_w a, a.w, _, rfl, DGet.k (k := Sum.inl (n : Int)) h.hw, _, rfl, ?_⟩
    rw [hg]
    refine iteF ⟨_, rfl, p, dx, _, rfl, ho, bf_no a (by decide +kernel) (by decide +kernel) (by decide +kernel) (by decide +kernel) (by decide +kernel), p, a, F, B, rfl, h.toT, h60, ?_⟩
    refine ⟨_, rfl, p, dx, _, rfl, ho, bf_no a (by decide +kernel) (by decide +kernel) (by decide +kernel) (by decide +kernel) (by decide +kernel), p, a, F, B, rfl, h.toT, _, _, rfl, rfl, _, rfl, p, C, dx, _, _, rfl, ho, T.cl, T.n3, bf_w a, _, rfl, a.w, _, rfl, DPut.k (k := Sum.inl (n : Int)) h.hw (small1000 (by omega)), ?_⟩
    have ste1 : ∀ b o, H b = some o → b ≠ a.w → upd H a.w (.dK (putK B.gs (Sum.inl (n : Int)) (.int ((B.ds.length : Int) + 1)))) b = some o := fun b o e n1 => by
      rw [upd_ne n1]; exact e
    have wp : p ≠ a.w := ne_of ho h.hw (by intro z; cases z)
    have wf : a.f ≠ a.w := ne_of e1 h.hw (by intro z; cases z)
    have wd : a.d ≠ a.w := ne_of e2 h.hw (by intro z; cases z)
    have wt : a.t ≠ a.w := ne_of e3 h.hw (by intro z; cases z)
    have L1 : Lm L (upd H a.w (.dK (putK B.gs (Sum.inl (n : Int)) (.int ((B.ds.length : Int) + 1))))) := lam_keep LL fun b o e _ n1 => ste1 b o e fun z => by rw [z, h.hw] at e; exact n1 _ (Option.some.inj e).symm
    have tup1 : ∀ b xs, H b = some (.tup xs) → upd H a.w (.dK (putK B.gs (Sum.inl (n : Int)) (.int ((B.ds.length : Int) + 1)))) b = some (.tup xs) := fun b xs e => ste1 _ _ e (ne_of e h.hw (by intro z; cases z))
    refine ⟨_, rfl, p, dx, _, rfl, ste1 _ _ ho wp, bf_no a (by decide +kernel) (by decide +kernel) (by decide +kernel) (by decide +kernel) (by decide +kernel), _, rfl, _, rfl, p, dx, _, rfl, ste1 _ _ ho wp, bf_no a (by decide +kernel) (by decide +kernel) (by decide +kernel) (by decide +kernel) (by decide +kernel), _, rfl, p, C, dx, _, _, rfl, ste1 _ _ ho wp, T.cl, T.n2, bf_f a, _, rfl, a.f, _, _, V.ref y0, rfl, rfl, SqL.of (ste1 _ _ e1 wf), atI_nat (by rw [List.getElem?_map, ey]; rfl), y0, _, 0, V.str r.1, rfl, rfl, SqT.of (tup1 _ _ e4), rfl, ?_⟩
    refine ⟨p, a, r.1, B.fs, putK B.gs (Sum.inl (n : Int)) (.int ((B.ds.length : Int) + 1)), dx, ps, rfl, ste1 _ _ ho wp, ste1 _ _ e1 wf, Paired.mapP r1 fun _ _ e => tup1 _ _ e, upd_same, fun x hx => ?_, L1, fun st rs H3 nst g3 hrs td i4 dy => ?_⟩
    · obtain ⟨_, a1, a2, a3, _⟩ := h.ok.fin x hx
      exact ⟨a1, a2, a3⟩
    have keep3 : ∀ b o, H b = some o → b ≠ L → b ≠ a.w → H3 b = some o := fun b o e n1 n2 => g3.same b o n1 (ste1 b o e n2)
    have free1 : ∀ b, H3 b = none → H b = none := fun b e => by
      have e1' := Gm.free g3 e
      by_cases z : b = a.w
      · rw [z, upd_same] at e1'; cases e1'
      · rw [upd_ne z] at e1'; exact e1'
    have nst1 : H st = none := by
      by_cases z : st = a.w
      · rw [z, upd_same] at nst; cases nst
      · rw [upd_ne z] at nst; exact nst
    have noL : ∀ {b : Addr} {o : HO}, H b = some o → (∀ ps, o ≠ .tbl ps) → b ≠ L := fun e n z => by
      obtain ⟨us, eu⟩ := LL.tbl
      rw [z, eu] at e
      exact n us (Option.some.inj e).symm
    have tup3 : ∀ b xs, H b = some (.tup xs) → H3 b = some (.tup xs) := fun b xs e => g3.tup L1 (tup1 b xs e)
    have O' := h.ok.withd hn h60
    have el : ((B.withd n).ds.length : Int) = (B.ds.length : Int) + 1 := by simp [Bk.withd]
    have T3 : BkT C H3 p a F B := by
      refine ⟨⟨dx, keep3 _ _ ho (noL ho (by intro _ z; cases z)) wp⟩, keep3 _ _ h.hn (noL h.hn (by intro _ z; cases z)) (fun z => h.nn (.inr (.inl z))), ⟨qs, keep3 _ _ e2 (noL e2 (by intro _ z; cases z)) wd, Paired.mapP r2 fun _ _ e => tup3 _ _ e⟩, ⟨ts, keep3 _ _ e3 (noL e3 (by intro _ z; cases z)) wt, l3, fun i x e => ?_⟩⟩
      obtain ⟨kvs, ex, kl, kk⟩ := (r3 i x e).ex
      refine ⟨(r3 i x e).fp, (r3 i x e).nm, kvs, keep3 _ _ ex (noL ex (by intro _ z; cases z)) (fun z => (r3 i x e).nm (.inr (.inl z))), kl, fun k' hk' => ?_⟩
      obtain ⟨ra, rs', e5, R⟩ := kk k' hk'
      exact ⟨ra, rs', e5, R.fp, R.nm, rowsL_mono R.rl (fun xs e => keep3 _ _ e (noL e (by intro _ z; cases z)) fun z => R.nm (.inr (.inl z))) tup3, R.td, R.i4, R.dy⟩
    have HF : Half C H3 p a F B (B.withd n) n r wWith := by
      refine ⟨T3, ⟨ps, keep3 _ _ e1 (noL e1 (by intro _ z; cases z)) wf, Paired.mapP r1 fun _ _ e => tup3 _ _ e⟩, g3.dK L1 upd_same, h.fa, h.nn, h.fd, h.ft, h.dt, rfl, rfl, O', hr1, fun k' t d ht => h.ok.withd_old hg ht k' d, fun k' d hk' => h.ok.withd_other hr1 h60 hk' d⟩
    refine ⟨p, a, F, B, B.withd n, n, r, wWith, st, rs, rfl, HF, hrs, bk_noM h nst1, td, i4, fun d => ?_, fun H' F' hF hF2 st5 BK => ?_⟩
    · have nw := O'.now r.1 d
      rw [el] at nw
      rw [dy, nw]
      rfl
    · refine q H' F' (lam_keep g3.lam fun b o e n1 n2 => st5 b o e (fun z => ?_) fun z => ?_) hF (fun b z => ?_) (fun b o e n1 n2 => st5 b o (keep3 b o e n1 fun z => n2 (.inr (.inl z))) (fun z => n2 (.inr (.inr (.inl z)))) fun z => n2 (.inr (.inr (.inr z)))) BK
      · obtain ⟨_, e4, _⟩ := T3.hd
        rw [z, e4] at e; exact n1 _ (Option.some.inj e).symm
      · obtain ⟨_, e4, _⟩ := T3.ht
        rw [z, e4] at e; exact n1 _ (Option.some.inj e).symm
      · rcases hF2 b z with z | z | z
        · exact .inl z
        · exact .inr (by rw [z]; exact nst1)
        · exact .inr (free1 b z)
end
end Mine
namespace Mine
open PySem L2
def spFind (C L : Addr) : Sp := fun vs H Q _ => ∃ (p : Addr) (a : BA) (F : Addr → Prop) (B : Bk) (k : Str) (f l v : Int), vs = [.ref p, .str k, .int f, .int l, .int v] ∧ Lm L H ∧ BkAt C H p a F B ∧ k ∈ B.ks ∧ 0 ≤ f ∧ f ≤ l ∧ l < 400 ∧ -1000000000 ≤ v ∧ v ≤ 1000000000 ∧ B.ds.length < 60 ∧
  ∀ (H' : Hp) (F' : Addr → Prop), Lm L H' → (∀ b, F b → F' b) → (∀ b, F' b → F b ∨ H b = none) → (∀ b o, H b = some o → b ≠ L → ¬ a.M b → H' b = some o) → BkAt C H' p a F' (B.find k f l v) → Q (.int (B.fs.length : Int)) H'
section
variable {P : Program} {w : World} {K : PySem.W.Frag} {mg : Str → Option Value} {base : Heap}
theorem scFind : FnScope ["self", "key", "first", "last", "value", "number"] ["self", "key", "first", "last", "value"] (defScope sFind) := ⟨rfl, rfl, rfl, by decide +kernel, rfl, by decide +kernel, by decide +kernel⟩
theorem ok_find {f C L f1 f2 f3 f4 f5 f6 f7 f8 : Addr} {fd : FuncData} (F : Fun K "find" "Book.find" sFind f fd) (N : Free mg) (Z : Con mg) (T : BkC K C) {fd1 : FuncData} (MY : MC P w K mg base C "check_key" 1 ["self", "key"] [] [] (spChkKey C) f1 fd1) {fd2 : FuncData} (CC : Cal P w K mg base "check_stretch" 3 ["first", "last"] spCheck f2 fd2) {fd3 : FuncData} (CW : Cal P w K mg base "is_whole" 1 ["thing", "low", "high"] spIsWhole f3 fd3) {fd4 : FuncData} (MR : MC P w K mg base C "check_room" 2 ["self"] [] [] (spChkRoom C) f4 fd4) {fd5 : FuncData} (MN : MC P w K mg base C "now" 1 ["self"] [] [] (spNow C) f5 fd5) {fd6 : FuncData} (MD : MC P w K mg base C "take_deed" 1 ["self", "word", "number", "strip"] [] [] (spTake C) f6 fd6) {fd7 : FuncData} (MB : MC P w K mg base C "table" 3 ["self", "key", "turn"] [Value.none] [V.non] (spTable C) f7 fd7) {fd8 : FuncData} (CL : Cal P w K mg base "laid" 4 ["strip", "first", "last", "mark"] (spLaid L) f8 fd8) : FnOk P w K mg base CX0 5 f fd ["self", "key", "first", "last", "value"] (spFind C L) := by
  obtain ⟨t1, c1⟩ := Z.value
  refine F.ok (k := 4) scFind (fun vs H Q E h => ?_) (fun cdv A outer s H vs Q E hr h => ?_)
  · obtain ⟨p, a, F, B, k, f, l, v, rfl, _⟩ := h
    rfl
  · obtain ⟨p, a, F, B, k, f, l, v, rfl, LL, h, hk, h0, h1, h2, v0, v1, h60, q⟩ := h
    have hu := hu_of hr
    refine ⟨_, (pss_cons (ps_expr (pe_meth (pv 0) MY.cl MY.mt MY.ok (hr.mono (by decide)) MY.bd MY.dv pass0 (pa_cons (pv 1) pa_nil)))
      (pss_cons (ps_expr (pe_call CC.ok (hr.mono (by decide)) rfl CC.nm CC.kp CC.bd .nil pass0 (pa_cons (pv 2) (pa_cons (pv 3) pa_nil))))
      (pss_cons (ps_if (pt_not (pt_val (pe_call CW.ok (hr.mono (by decide)) rfl CW.nm CW.kp CW.bd .nil pass0 (pa_cons (pv 4) (pa_cons (pe_un un_neg (pe_glob (v := .int 1000000000) (by rfl) c1 ⟨_, rfl⟩)) (pa_cons (pe_glob (v := .int 1000000000) (by rfl) c1 ⟨_, rfl⟩) pa_nil)))))) (pss_one ps_never) pss_nil)
      (pss_cons (ps_expr (pe_meth0 (pv 0) MR.cl MR.mt MR.ok (hr.mono (by decide)) MR.bd MR.dv pass0))
      (pss_cons (ps_set (i := 5) scFind.nd rfl (Or.inl rfl) (pe_callB call_len_seq (by rfl) N.len PySem.boot_len (pa_cons (pe_fld (pv 0) rfl) pa_nil)))
      (pss_cons (ps_expr (pe_bm PySem.F.plainAttrs_list PySem.F.slot_list_append PySem.F.type_list_append mt_append (pe_fld (pv 0) rfl) (pa_cons (pe_tup (pa_cons (pv 1) (pa_cons (pv 2) (pa_cons (pv 3) (pa_cons (pv 4) (pa_cons (pe_op op_add (pe_meth0 (pv 0) MN.cl MN.mt MN.ok (hr.mono (by decide)) MN.bd MN.dv pass0) pe_int) pa_nil)))))) pa_nil)))
      (pss_cons (ps_expr (pe_meth (pv 0) MD.cl MD.mt MD.ok (hr.mono (by decide)) MD.bd MD.dv pass0 (pa_cons pe_str (pa_cons (pv 5) (pa_cons (pe_call CL.ok (hr.mono (by decide)) rfl CL.nm CL.kp CL.bd .nil pass0 (pa_cons (pe_meth (pv 0) MB.cl MB.mt MB.ok (hr.mono (by decide)) MB.bd MB.dv pass0 (pa_cons (pv 1) pa_nil)) (pa_cons (pv 2) (pa_cons (pv 3) (pa_cons (pv 5) pa_nil))))) pa_nil)))))
      (pss_one (ps_ret (pv 5)))))))))), ?_⟩
    obtain ⟨dx, ho⟩ := h.ob
    obtain ⟨ps, e1, r1⟩ := h.hf
    obtain ⟨qs, e2, r2⟩ := h.hd
    obtain ⟨ts, e3, l3, r3⟩ := h.ht
    have lps : ps.length = B.fs.length := Paired.length r1
    have fsz := h.ok.fsz
    refine ⟨_, rfl, p, dx, _, rfl, ho, bf_no a (by decide +kernel) (by decide +kernel) (by decide +kernel) (by decide +kernel) (by decide +kernel), _, rfl, p, a, F, B, k, rfl, h.toT, hk, ?_⟩
    refine ⟨_, rfl, _, rfl, f, l, rfl, h0, h1, h2, ?_⟩
    refine ⟨_, rfl, _, rfl, v, -1000000000, 1000000000, rfl, _, rfl, ?_⟩
    rw [decide_eq_true v0, decide_eq_true v1]
    refine iteF ⟨_, rfl, p, dx, _, rfl, ho, bf_no a (by decide +kernel) (by decide +kernel) (by decide +kernel) (by decide +kernel) (by decide +kernel), p, a, F, B, rfl, h.toT, h60, ?_⟩
    refine ⟨_, rfl, p, C, dx, _, _, rfl, ho, T.cl, T.n2, bf_f a, a.f, _, rfl, .inl (SqL.of e1), ?_⟩
    rw [List.length_map, lps]
    refine ⟨_, rfl, p, C, dx, _, _, rfl, ho, T.cl, T.n2, bf_f a, .inl ⟨rfl, _, SqL.of e1⟩, _, rfl, _, rfl, _, rfl, _, rfl, _, rfl, p, dx, _, rfl, ho, bf_no a (by decide +kernel) (by decide +kernel) (by decide +kernel) (by decide +kernel) (by decide +kernel), p, a, F, B, rfl, h.toT, _, _, rfl, rfl, by show 5 ≤ sizeLine; decide, fun y ny => ?_⟩
    refine ⟨a.f, _, _, rfl, rfl, by rw [upd_ne (ne_of_none e1 ny)]; exact e1, by rw [List.length_map]; exact small1000 (by omega), ?_⟩
    have yM := bk_noM h ny
    have ste1 : ∀ b o, H b = some o → b ≠ a.f → upd (upd H y (.tup (tupF (k, f, l, v, (B.ds.length : Int) + 1)))) a.f (.lst (ps.map V.ref ++ [V.ref y])) b = some o := fun b o e n1 => by
      rw [upd_ne n1, upd_ne (ne_of_none e ny)]; exact e
    have M1 : KeepM H _ a := ⟨fun b o nb e => ste1 b o e fun z => nb (.inl z)⟩
    have T1 : BkT C _ p a F B := bkT_keep h M1 (fun xs e => ste1 _ _ e (Ne.symm h.fd)) fun xs e => ste1 _ _ e (Ne.symm h.ft)
    have pf : p ≠ a.f := ne_of ho e1 (by intro z; cases z)
    have L1 : Lm L (upd (upd H y (.tup (tupF (k, f, l, v, (B.ds.length : Int) + 1)))) a.f (.lst (ps.map V.ref ++ [V.ref y]))) := lam_keep LL fun b o e n1 _ => ste1 b o e fun z => by rw [z, e1] at e; exact n1 _ (Option.some.inj e).symm
    refine ⟨_, rfl, p, dx, _, rfl, ste1 _ _ ho pf, bf_no a (by decide +kernel) (by decide +kernel) (by decide +kernel) (by decide +kernel) (by decide +kernel), _, rfl, _, rfl, p, dx, _, rfl, ste1 _ _ ho pf, bf_no a (by decide +kernel) (by decide +kernel) (by decide +kernel) (by decide +kernel) (by decide +kernel), _, rfl, p, a, F, B, k, .non, B.ds.length, rfl, T1, hk, Nat.le_refl _, .inl ⟨rfl, rfl⟩, fun ls ps2 rs nls rp td i4 dy => ?_⟩
    have g2 : Gm L (upd (upd H y (.tup (tupF (k, f, l, v, (B.ds.length : Int) + 1)))) a.f (.lst (ps.map V.ref ++ [V.ref y]))) _ := Go.new (o := .lst (ps2.map V.ref)) L1 nls
    refine ⟨_, rfl, _, rfl, _, rfl, ls, f, l, (B.fs.length : Int), rs, rfl, g2.lam, ⟨ps2, upd_same, rowsP_mono rp fun x xs e => g2.tup L1 e⟩, td.up.disj, i4, rows_few td.up i4, h0, h1, h2, fun st acc H3 nst g3 hacc td3 dy3 i43 _ => ?_⟩
    have g13 := g2.trans g3
    have keep3 : ∀ b o, H b = some o → b ≠ L → b ≠ a.f → H3 b = some o := fun b o e n1 n2 => g13.same b o n1 (ste1 b o e n2)
    have free1 : ∀ b, H3 b = none → H b = none := fun b e => by
      have e1' := Gm.free g13 e
      by_cases z : b = a.f
      · rw [z, upd_same] at e1'; cases e1'
      · rw [upd_ne z] at e1'
        by_cases z2 : b = y
        · rw [z2]; exact ny
        · rw [upd_ne z2] at e1'; exact e1'
    have nst1 : H st = none := by
      have e1' := Gm.free g2 nst
      by_cases z : st = a.f
      · rw [z, upd_same] at e1'; cases e1'
      · rw [upd_ne z] at e1'
        by_cases z2 : st = y
        · rw [z2]; exact ny
        · rw [upd_ne z2] at e1'; exact e1'
    have noL : ∀ {b : Addr} {o : HO}, H b = some o → (∀ ps, o ≠ .tbl ps) → b ≠ L := fun e n z => by
      obtain ⟨us, eu⟩ := LL.tbl
      rw [z, eu] at e
      exact n us (Option.some.inj e).symm
    have tup3 : ∀ b xs, H b = some (.tup xs) → H3 b = some (.tup xs) := fun b xs e => keep3 _ _ e (noL e (by intro _ z; cases z)) (ne_of e e1 (by intro z; cases z))
    have O' := h.ok.find (v := v) hk h0 h1 h2 h60
    have T3 : BkT C H3 p a F B := by
      refine ⟨⟨dx, keep3 _ _ ho (noL ho (by intro _ z; cases z)) pf⟩, keep3 _ _ h.hn (noL h.hn (by intro _ z; cases z)) (fun z => h.nn (.inl z)), ⟨qs, keep3 _ _ e2 (noL e2 (by intro _ z; cases z)) (Ne.symm h.fd), Paired.mapP r2 fun _ _ e => tup3 _ _ e⟩, ⟨ts, keep3 _ _ e3 (noL e3 (by intro _ z; cases z)) (Ne.symm h.ft), l3, fun i x e => ?_⟩⟩
      obtain ⟨kvs, ex, kl, kk⟩ := (r3 i x e).ex
      refine ⟨(r3 i x e).fp, (r3 i x e).nm, kvs, keep3 _ _ ex (noL ex (by intro _ z; cases z)) (fun z => (r3 i x e).nm (.inl z)), kl, fun k' hk' => ?_⟩
      obtain ⟨ra, rs', e5, R⟩ := kk k' hk'
      exact ⟨ra, rs', e5, R.fp, R.nm, rowsL_mono R.rl (fun xs e => keep3 _ _ e (noL e (by intro _ z; cases z)) fun z => R.nm (.inl z)) tup3, R.td, R.i4, R.dy⟩
    have f3 : H3 a.f = some (.lst (ps.map V.ref ++ [V.ref y])) := g13.lst L1 upd_same
    have y3 : H3 y = some (.tup (tupF (k, f, l, v, (B.ds.length : Int) + 1))) := g13.tup L1 (by rw [upd_ne (fun z => yM (.inl z)), upd_same])
    have HF : Half C H3 p a F B (B.find k f l v) B.fs.length (k, f, l, v, (B.ds.length : Int) + 1) wFind := by
      refine ⟨T3, ⟨ps ++ [y], by rw [f3, List.map_append]; rfl, paired_snoc (Paired.mapP r1 fun _ _ e => tup3 _ _ e) y3⟩, keep3 _ _ h.hw (noL h.hw (by intro _ z; cases z)) (ne_of h.hw e1 (by intro z; cases z)), h.fa, h.nn, h.fd, h.ft, h.dt, rfl, rfl, O', ?_, fun k' t d ht => h.ok.find_old ht k' d, fun k' d hk' => ?_⟩
      · show (B.fs ++ [(k, f, l, v, (B.ds.length : Int) + 1)])[B.fs.length]? = _
        simp
      · rw [h.ok.find_now, if_neg (fun z => hk' z.1.symm)]
    refine ⟨p, a, F, B, B.find k f l v, B.fs.length, (k, f, l, v, (B.ds.length : Int) + 1), wFind, st, acc, rfl, HF, hacc, bk_noM h nst1, td3, i43, fun d => ?_, fun H' F' hF hF2 st5 BK => ?_⟩
    · rw [dy3, h.ok.find_now]
      unfold Strip.laidG
      by_cases hd : f ≤ d ∧ d ≤ l
      · rw [if_pos hd, if_pos ⟨rfl, hd⟩]; rfl
      · rw [if_neg hd, if_neg (fun z => hd z.2)]; exact dy d
    · refine ⟨_, rfl, q H' F' (lam_keep g13.lam fun b o e n1 n2 => st5 b o e (fun z => ?_) fun z => ?_) hF (fun b z => ?_) (fun b o e n1 n2 => st5 b o (keep3 b o e n1 fun z => n2 (.inl z)) (fun z => n2 (.inr (.inr (.inl z)))) fun z => n2 (.inr (.inr (.inr z)))) BK⟩
      · obtain ⟨_, e4, _⟩ := T3.hd
        rw [z, e4] at e; exact n1 _ (Option.some.inj e).symm
      · obtain ⟨_, e4, _⟩ := T3.ht
        rw [z, e4] at e; exact n1 _ (Option.some.inj e).symm
      · rcases hF2 b z with z | z | z
        · exact .inl z
        · exact .inr (by rw [z]; exact nst1)
        · exact .inr (free1 b z)
end
end Mine
namespace Mine
open PySem L2
abbrev sDone : Stmt := top 41
theorem rd_if {c : TT} {t u : TS} {D : Ends} {σ : St} {H : Hp} (h : c σ H fun b H1 => if b = true then t D σ H1 else u D σ H1) : tIfS c t u D σ H := h
theorem two_of {a b i : Int} (h0 : 0 ≤ i) (h1 : i < 2) : ∃ s : Int, (s = a ∨ s = b) ∧ atI [V.int a, V.int b] i = some (V.int s) := by
  rcases (show i = 0 ∨ i = 1 by omega) with rfl | rfl
  · exact ⟨a, .inl rfl, rfl⟩
  · exact ⟨b, .inr rfl, rfl⟩
theorem dats_int {H : Hp} : ∀ xs : List Nat, DatVs H (xs.map fun i : Nat => V.int (i : Int)) (xs.map fun i : Nat => PySem.W.Dat.int (i : Int))
  | [] => .nil
  | x :: xs => .cons (.int _) (dats_int xs)
theorem done_test {σ : St} {H : Hp} {D : Addr} {c : Int} {xs : List Nat} {R : Bool → Hp → Prop} (h2 : σ[2]? = some (some (.int c))) (h4 : σ[4]? = some (some (.ref D))) (hD : H D = some (.lst (xs.map fun i : Nat => V.int (i : Int))))
    (h : ∀ (bb : Bool) (H1 : Hp), Grow H H1 → (bb = true → xs ≠ []) → R bb H1) :
    tAnd (tTest (tOp rEq (tCall spDraw [] E0 (tCons (tVar 2) (tCons (tC (V.int 0)) (tCons (tC (V.int 4)) tNil)))) (tC (V.int 3)))) (tTest (tOp (rEqDat true) (tVar 4) (tLst tNil))) σ H R := by
  refine ⟨_, h2, c, 0, 4, rfl, by decide, by decide, by decide, fun n _ _ => ⟨rfl, _, rfl, ?_⟩⟩
  cases decide (V.int n = V.int 3) with
  | false => exact iteF (h _ _ Grow.refl fun z => by cases z)
  | true =>
    refine iteT ⟨_, h4, Nat.zero_le _, fun p np => ?_⟩
    have hD2 : upd H p (.lst []) D = some (.lst (xs.map fun i : Nat => V.int (i : Int))) := by rw [upd_ne (ne_of_none hD np)]; exact hD
    refine ⟨.list (xs.map fun i : Nat => PySem.W.Dat.int (i : Int)), .list [], .lst hD2 (dats_int xs), .lst upd_same .nil, ?_, rfl, decide (xs = []), ?_, _, rfl, h _ _ (Grow.new np) fun z => ?_⟩
    · show (xs.map fun i : Nat => PySem.W.Dat.int (i : Int)).all (PySem.W.kqdOk 8) = true
      refine List.all_eq_true.mpr fun d hd => ?_
      obtain ⟨i, _, rfl⟩ := List.mem_map.mp hd
      rfl
    · rw [decide_eq_true_iff]
      constructor
      · intro e; rw [e]; rfl
      · intro e
        have := PySem.W.Dat.list.inj e
        exact List.map_eq_nil_iff.mp this
    · intro e
      rw [e] at z
      cases z
def Did (B B' : Bk) (n : Nat) (f : Fnd) : Prop := B'.fs[n]? = some f ∧ ((B' = B.find f.1 f.2.1 f.2.2.1 f.2.2.2.1 ∧ n = B.fs.length) ∨ (B' = B.withd n ∧ valV B.gs (Sum.inl (n : Int)) = none))
def spDone (C L : Addr) : Sp := fun vs H Q _ => ∃ (p : Addr) (a : BA) (F : Addr → Prop) (s : SA) (B : Bk) (c span : Int), vs = [.ref p, .ref s.d, .int c, .int span] ∧ Lm L H ∧ Pair C L H p a F s B ∧ 0 < span ∧ span ≤ 400 ∧ B.ds.length < 60 ∧
  ∀ (H' : Hp) (F' : Addr → Prop) (B' : Bk), Lm L H' → Pair C L H' p a F' s B' → B'.ds.length = B.ds.length + 1 → 1 ≤ B'.fs.length → (∃ (n : Nat) (f : Fnd), Did B B' n f) → (∀ b, F' b → F b ∨ H b = none) → (∀ b o, H b = some o → b ≠ L → ¬ a.M b → ¬ s.At b → H' b = some o) → Q (.bl true) H'
section
variable {P : Program} {w : World} {K : PySem.W.Frag} {mg : Str → Option Value} {base : Heap}
theorem scDone : FnScope ["_law_book", "_law_state_here", "_law_cell_here", "_law_span", "_law_standing_here", "_law_number", "_law_key", "_law_first", "_law_last", "_law_value", "_law_told"] ["_law_book", "_law_state_here", "_law_cell_here", "_law_span"] (defScope sDone) := ⟨rfl, rfl, rfl, by decide +kernel, rfl, by decide +kernel, by decide +kernel⟩
theorem ok_done {f f1 f2 f3 f4 f5 f6 C L : Addr} {fd : FuncData} (F : Fun K "_law_done" "_law_done" sDone f fd) (N : Free mg) {fd1 : FuncData} (CD : Cal P w K mg base "_law_draw" 2 ["_law_cell_here", "_law_k", "_law_many"] spDraw f1 fd1) {fd2 : FuncData} (CS : Cal P w K mg base "_law_standing" 1 ["_law_state_here"] spStand f2 fd2) {fd3 : FuncData} (CT : Cal P w K mg base "_law_stretch" 3 ["_law_cell_here", "_law_k", "_law_span"] spStretch f3 fd3) {fd4 : FuncData} (CW : Cal P w K mg base "_law_whole" 1 ["_law_found"] spWhole f4 fd4) {fd5 : FuncData} (MF : MC P w K mg base C "find" 5 ["self", "key", "first", "last", "value"] [] [] (spFind C L) f5 fd5) {fd6 : FuncData} (MW : MC P w K mg base C "withdraw" 6 ["self", "number"] [] [] (spWithd C L) f6 fd6) : FnOk P w K mg base CX0 7 f fd ["_law_book", "_law_state_here", "_law_cell_here", "_law_span"] (spDone C L) := by
  refine F.ok (k := 6) scDone (fun vs H Q E h => ?_) (fun cdv A outer s H vs Q E hr h => ?_)
  · obtain ⟨p, a, F, s, B, c, span, rfl, _⟩ := h
    rfl
  · obtain ⟨p, a, F, s, B, c, span, rfl, LL, h, s0, s1, h60, q⟩ := h
    have hu := hu_of hr
    refine ⟨_, (pss_cons (ps_set (i := 4) scDone.nd rfl (Or.inl rfl) (pe_call CS.ok (hr.mono (by decide)) rfl CS.nm CS.kp CS.bd .nil pass0 (pa_cons (pv 1) pa_nil)))
      (pss_cons (ps_if (PW.pt (pw_and (pt_cmpR op_eq (pe_call CD.ok (hr.mono (by decide)) rfl CD.nm CD.kp CD.bd .nil pass0 (pa_cons (pv 2) (pa_cons pe_int (pa_cons pe_int pa_nil)))) pe_int (nomark _)) (pw_and1 (pt_cmpR (op_neDat hr.units) (pv 4) (pe_lst pa_nil) (nomark _))))) (pss_cons (ps_set (i := 5) scDone.nd rfl (Or.inl rfl) (pe_ix ix_list (pv 4) (pe_call CD.ok (hr.mono (by decide)) rfl CD.nm CD.kp CD.bd .nil pass0 (pa_cons (pv 2) (pa_cons pe_int (pa_cons (pe_callB call_len_seq (by rfl) N.len PySem.boot_len (pa_cons (pv 4) pa_nil)) pa_nil)))) (fun _ _ => rfl)))
      (pss_cons (ps_expr (pe_bm PySem.F.plainAttrs_list PySem.F.slot_list_append PySem.F.type_list_append mt_append (pe_dget hu (pv 1) pe_str (fun _ _ => rfl)) (pa_cons (pe_tup (pa_cons pe_str (pa_cons (pv 5) pa_nil))) pa_nil)))
      (pss_cons (ps_dput hu (pe_dget hu (pv 1) pe_str (fun _ _ => rfl)) (pv 5) (pe_callB call_len_seq (by rfl) N.len PySem.boot_len (pa_cons (pe_dget hu (pv 1) pe_str (fun _ _ => rfl)) pa_nil)) rfl)
      (pss_one (ps_ret (pe_cmp (pc_isN (pe_meth (pv 0) MW.cl MW.mt MW.ok (hr.mono (by decide)) MW.bd MW.dv pass0 (pa_cons (pv 5) pa_nil))))))))) pss_nil)
      (pss_cons (ps_set (i := 6) scDone.nd rfl (Or.inl rfl) (pe_ix ix_list (pe_dget hu (pv 1) pe_str (fun _ _ => rfl)) (pe_call CD.ok (hr.mono (by decide)) rfl CD.nm CD.kp CD.bd .nil pass0 (pa_cons (pv 2) (pa_cons pe_int (pa_cons (pe_callB call_len_seq (by rfl) N.len PySem.boot_len (pa_cons (pe_dget hu (pv 1) pe_str (fun _ _ => rfl)) pa_nil)) pa_nil)))) (fun _ _ => rfl)))
      (pss_cons (ps_asg (pe_call CT.ok (hr.mono (by decide)) rfl CT.nm CT.kp CT.bd .nil pass0 (pa_cons (pv 2) (pa_cons pe_int (pa_cons (pv 3) pa_nil)))) (pg_tup rfl (pgs_cons (pg_name (i := 7) scDone.nd rfl (Or.inl rfl)) (pgs_cons (pg_name (i := 8) scDone.nd rfl (Or.inl rfl)) pgs_nil))))
      (pss_cons (ps_set (i := 9) scDone.nd rfl (Or.inl rfl) (pe_call CD.ok (hr.mono (by decide)) rfl CD.nm CD.kp CD.bd .nil pass0 (pa_cons (pv 2) (pa_cons pe_int (pa_cons (pe_ix ix_list (pe_lst (pa_cons pe_int (pa_cons (pe_op op_add (pe_op op_mul pe_int (pe_op op_pow pe_int pe_int)) pe_int) pa_nil))) (pe_call CD.ok (hr.mono (by decide)) rfl CD.nm CD.kp CD.bd .nil pass0 (pa_cons (pv 2) (pa_cons pe_int (pa_cons pe_int pa_nil)))) (fun _ _ => rfl)) pa_nil)))))
      (pss_cons (ps_set (i := 9) scDone.nd rfl (Or.inl rfl) (pe_ix ix_list (pe_lst (pa_cons (pv 9) (pa_cons (pe_op op_sub (pv 9) (pe_op op_pow pe_int pe_int)) pa_nil))) (pe_call CD.ok (hr.mono (by decide)) rfl CD.nm CD.kp CD.bd .nil pass0 (pa_cons (pv 2) (pa_cons pe_int (pa_cons pe_int pa_nil)))) (fun _ _ => rfl)))
      (pss_cons (ps_if (pt_cmpR op_gt (pv 9) (pe_op op_pow pe_int pe_int) (nomark _)) (pss_one (ps_set (i := 9) scDone.nd rfl (Or.inl rfl) (pe_op op_pow pe_int pe_int))) pss_nil)
      (pss_cons (ps_set (i := 5) scDone.nd rfl (Or.inl rfl) (pe_callB call_len_seq (by rfl) N.len PySem.boot_len (pa_cons (pe_dget hu (pv 1) pe_str (fun _ _ => rfl)) pa_nil)))
      (pss_cons (ps_expr (pe_bm PySem.F.plainAttrs_list PySem.F.slot_list_append PySem.F.type_list_append mt_append (pe_dget hu (pv 1) pe_str (fun _ _ => rfl)) (pa_cons (pe_tup (pa_cons pe_str (pa_cons (pv 5) pa_nil))) pa_nil)))
      (pss_cons (ps_expr (pe_bm PySem.F.plainAttrs_list PySem.F.slot_list_append PySem.F.type_list_append mt_append (pe_dget hu (pv 1) pe_str (fun _ _ => rfl)) (pa_cons (pe_tup (pa_cons (pv 6) (pa_cons (pv 7) (pa_cons (pv 8) (pa_cons (pv 9) (pa_cons (pe_callB call_len_seq (by rfl) N.len PySem.boot_len (pa_cons (pe_dget hu (pv 1) pe_str (fun _ _ => rfl)) pa_nil)) pa_nil)))))) pa_nil)))
      (pss_cons (ps_set (i := 10) scDone.nd rfl (Or.inl rfl) (pe_meth (pv 0) MF.cl MF.mt MF.ok (hr.mono (by decide)) MF.bd MF.dv pass0 (pa_cons (pv 6) (pa_cons (pv 7) (pa_cons (pv 8) (pa_cons (pv 9) pa_nil))))))
      (pss_one (ps_ret (pe_and (pe_call CW.ok (hr.mono (by decide)) rfl CW.nm CW.kp CW.bd .nil pass0 (pa_cons (pv 10) pa_nil)) (pe_one (pe_cmpR op_eq (pv 10) (pv 5) (nomark _))))))))))))))))), ?_⟩
    obtain ⟨dx, ho⟩ := h.bk.ob
    have fsz := h.bk.ok.fsz
    have k1 := h.bk.ok.k1
    refine rd_seq (rd_asg ?_)
    refine ⟨_, rfl, s, B, rfl, h.st, by omega, fun D nD => ?_⟩
    dsimp only [gName]
    have g1 : Grow H (upd H D (.lst ((stands B).map fun i : Nat => V.int (i : Int)))) := Grow.new nD
    have eD : upd H D (.lst ((stands B).map fun i : Nat => V.int (i : Int))) D = some (.lst ((stands B).map fun i : Nat => V.int (i : Int))) := upd_same
    have L1 : Lm L (upd H D (.lst ((stands B).map fun i : Nat => V.int (i : Int)))) := LL.upd_new nD
    generalize upd H D (.lst ((stands B).map fun i : Nat => V.int (i : Int))) = H1 at g1 eD L1
    have P1 := h.grow g1
    refine rd_seq (rd_if (done_test (xs := stands B) rfl rfl eD fun bb H2 g2 hb => ?_))
    have P2 := P1.grow g2
    have g12 := g1.trans g2
    have L2' : Lm L H2 := lam_keep L1 fun b o e _ _ => g2 b o e
    obtain ⟨pL, hL2⟩ := L2'.tbl
    have eD2 := g2 _ _ eD
    have ho2 := g12 _ _ ho
    obtain ⟨ps, e1, r1⟩ := id P2.st.hf
    obtain ⟨qs, e2, r2⟩ := id P2.st.he
    have lps : ps.length = B.fs.length := Paired.length r1
    have lqs : qs.length = B.ds.length := Paired.length r2
    dsimp only
    cases bb with
    | true =>
      refine iteT (rd_seq (rd_asg ?_))
      have hne : (stands B).length ≠ 0 := fun z => hb rfl (List.eq_nil_of_length_eq_zero z)
      refine ⟨_, rfl, _, rfl, _, rfl, D, _, rfl, .inl (SqL.of eD2), c, 1, _, rfl, by decide, by decide, by rw [List.length_map]; omega, fun i i0 i1 => ?_⟩
      rw [List.length_map] at i1
      obtain ⟨i, rfl⟩ : ∃ j : Nat, i = (j : Int) := ⟨i.toNat, by omega⟩
      have ei : (stands B)[i]? = some ((stands B)[i]'(by omega)) := List.getElem?_eq_getElem (by omega)
      generalize (stands B)[i]'(by omega) = n at ei
      obtain ⟨n1, n2⟩ := stands_mem ei
      refine ⟨D, _, (i : Int), V.int (n : Int), rfl, rfl, SqL.of eD2, atI_nat (by rw [List.getElem?_map, ei]; rfl), ?_⟩
      dsimp only [gName]
      refine rd_seq (rd_expr (rd_bm ?_))
      refine ⟨_, rfl, s.d, _, rfl, P2.st.d_e, .inl ⟨rfl, _, SqL.of e2⟩, _, rfl, by show 2 ≤ sizeLine; decide, fun y ny => ?_⟩
      have ne2 : upd H2 y (.tup [.str wWith, .int (n : Int)]) s.e = some (.lst (qs.map V.ref)) := by rw [upd_ne (ne_of_none e2 ny)]; exact e2
      refine ⟨s.e, _, _, rfl, rfl, ne2, by rw [List.length_map]; exact small1000 (by omega), ?_⟩
      dsimp only
      generalize E1 : upd (upd H2 y (.tup [.str (Str.ofString "withdraw"), .int (n : Int)])) s.e (.lst (qs.map V.ref ++ [.ref y])) = H3
      generalize E2 : upd H3 s.g (.dK (putK B.gs (Sum.inl (n : Int)) (.int ((B.ds.length : Int) + 1)))) = H4
      obtain ⟨S4, K4⟩ := P2.st.withd e2 r2 ny E1.symm E2.symm
      have k3 : ∀ b o, H2 b = some o → b ≠ s.e → H3 b = some o := fun b o e nb => by rw [← E1, upd_ne nb, upd_ne (ne_of_none e ny)]; exact e
      have d3 := k3 _ _ P2.st.dd (ne_of P2.st.dd e2 (by intro z; cases z))
      have g3 := k3 _ _ P2.st.hg (ne_of P2.st.hg e2 (by intro z; cases z))
      have e3 : H3 s.e = some (.lst (qs.map V.ref ++ [.ref y])) := by rw [← E1, upd_same]
      refine rd_seq ?_
      refine ⟨_, rfl, s.d, _, rfl, by rw [← sD_e s]; exact DGet.k (k := Sum.inr _) d3, s.e, _, rfl, .inl (SqL.of e3), _, rfl, s.d, _, rfl, by rw [← sD_g s]; exact DGet.k (k := Sum.inr _) d3, _, rfl, s.g, _, rfl, DPut.k (k := Sum.inl _) g3 (small1000 (by have := h.bk.ok.gsz; omega)), ?_⟩
      rw [show ((qs.map V.ref ++ [V.ref y]).length : Int) = (B.ds.length : Int) + 1 by rw [List.length_append, List.length_map, lqs]; rfl, E2]
      dsimp only
      have bk4 := P2.keeps K4
      have L4 : Lm L H4 := lam_keep L2' fun b o e n1 n2 => K4 b o e fun z => by
        rcases P2.st.kind z with ⟨ys, w⟩ | ⟨ys, w⟩
        · rw [e] at w; exact n1 ys (Option.some.inj w)
        · rw [e] at w; exact n2 ys (Option.some.inj w)
      obtain ⟨pL4, hL4⟩ := L4.tbl
      have ho4 := K4 _ _ ho2 (P2.st.not_ins ho2)
      have hr1 : B.fs[n]? = some (B.fs[n]'n1) := List.getElem?_eq_getElem n1
      refine rd_ret ⟨_, rfl, p, dx, _, rfl, ho4, bf_no a (by decide +kernel) (by decide +kernel) (by decide +kernel) (by decide +kernel) (by decide +kernel), _, rfl, p, a, F, B, n, _, rfl, L4, bk4, hr1, n2, h60, fun H' F' LH _ f1 gg bk' => ?_⟩
      obtain ⟨A1, A2, A3⟩ := P2.after S4 K4 hL4 f1 gg bk'
      refine q H' _ _ LH A1 (by show (B.ds ++ [_]).length = _; rw [List.length_append]; rfl) (by show 1 ≤ B.fs.length; omega) ⟨n, _, hr1, .inr ⟨rfl, n2⟩⟩ (fun b hb => (A2 b hb).imp_right g12.free) fun b o e w1 w2 w3 => A3 b o (g12 b o e) w1 w2 w3
    | false =>
      refine iteF (rd_next ?_)
      dsimp only
      refine rd_seq (rd_asg ?_)
      refine ⟨_, rfl, s.d, _, rfl, P2.st.d_k, _, rfl, _, rfl, s.d, _, rfl, P2.st.d_k, s.k, _, rfl, .inl (SqL.of P2.st.hk), c, 2, _, rfl, by decide, by decide, by rw [List.length_map]; omega, fun i i0 i1 => ?_⟩
      rw [List.length_map] at i1
      obtain ⟨i, rfl⟩ : ∃ j : Nat, i = (j : Int) := ⟨i.toNat, by omega⟩
      have ei : B.ks[i]? = some (B.ks[i]'(by omega)) := List.getElem?_eq_getElem (by omega)
      generalize B.ks[i]'(by omega) = k at ei
      have hkk := List.mem_of_getElem? ei
      refine ⟨s.k, _, (i : Int), V.str k, rfl, rfl, SqL.of P2.st.hk, atI_nat (by rw [List.getElem?_map, ei]; rfl), ?_⟩
      dsimp only [gName]
      refine rd_seq (rd_asg ⟨_, rfl, _, rfl, c, 3, span, rfl, by decide, by decide, s0, s1, fun t x y H3 g3 et x0 xy y4 => ?_⟩)
      refine ⟨t, _, rfl, SqT.of et, rfl, _, _, rfl, _, _, rfl, rfl, ?_⟩
      dsimp only
      have cp : CPow 10 9 := ⟨by decide, by decide, by decide⟩
      refine rd_seq (rd_asg ⟨_, rfl, 10, 9, rfl, rfl, cp, 2, _, rfl, rfl, .inl (by decide), _, _, rfl, rfl, by show 2 ≤ sizeLine; decide, fun l1 nl1 => ⟨_, rfl, c, 8, 2, rfl, by decide, by decide, by decide, fun j j0 j1 => ?_⟩⟩)
      obtain ⟨m, hm, em⟩ := two_of (a := 4) (b := 2 * 10 ^ (9 : Int).toNat + 1) j0 j1
      have hm2 : 0 < m ∧ m ≤ 2000000001 := by
        have z : (2 * 10 ^ (9 : Int).toNat + 1 : Int) = 2000000001 := by decide
        rw [z] at hm
        omega
      refine ⟨l1, _, j, V.int m, rfl, rfl, SqL.of upd_same, em, c, 7, m, rfl, by decide, by decide, hm2.1, fun v v0 v1 => ?_⟩
      dsimp only [gName]
      have g4 : Grow H3 (upd H3 l1 (.lst [.int 4, .int (2 * 10 ^ (9 : Int).toNat + 1)])) := Grow.new nl1
      generalize upd H3 l1 (.lst [.int 4, .int (2 * 10 ^ (9 : Int).toNat + 1)]) = H4 at g4
      refine rd_seq (rd_asg ⟨_, rfl, _, rfl, 10, 9, rfl, rfl, cp, _, _, rfl, rfl, by show 2 ≤ sizeLine; decide, fun l2 nl2 => ⟨_, rfl, c, 9, 2, rfl, by decide, by decide, by decide, fun j j0 j1 => ?_⟩⟩)
      obtain ⟨m', hm', em'⟩ := two_of (a := v) (b := v - 10 ^ (9 : Int).toNat) j0 j1
      have hv2 : -1000000000 ≤ m' ∧ m' ≤ 2000000000 := by
        have z : (10 ^ (9 : Int).toNat : Int) = 1000000000 := by decide
        rw [z] at hm'
        omega
      refine ⟨l2, _, j, V.int m', rfl, rfl, SqL.of upd_same, em', ?_⟩
      dsimp only [gName]
      have g5 : Grow H4 (upd H4 l2 (.lst [.int v, .int (v - 10 ^ (9 : Int).toNat)])) := Grow.new nl2
      generalize upd H4 l2 (.lst [.int v, .int (v - 10 ^ (9 : Int).toNat)]) = H5 at g5
      refine rd_seq (rd_clip (k := 9) (v := m') rfl fun v' hv' => ?_)
      dsimp only
      have g25 := (g3.trans g4).trans g5
      have g15 := g12.trans g25
      have P5 := P2.grow g25
      have L5 : Lm L H5 := lam_keep L2' fun b o e _ _ => g25 b o e
      have ho5 := g25 _ _ ho2
      clear r1 r2 e1 e2 lps lqs
      obtain ⟨ps, e1, r1⟩ := id P5.st.hf
      obtain ⟨qs, e2, r2⟩ := id P5.st.he
      have lps : ps.length = B.fs.length := Paired.length r1
      have lqs : qs.length = B.ds.length := Paired.length r2
      refine rd_seq (rd_asg ⟨_, rfl, s.d, _, rfl, P5.st.d_f, s.f, _, rfl, .inl (SqL.of e1), ?_⟩)
      rw [List.length_map, lps]
      dsimp only [gName]
      refine rd_seq (rd_expr (rd_bm ?_))
      refine ⟨_, rfl, s.d, _, rfl, P5.st.d_e, .inl ⟨rfl, _, SqL.of e2⟩, _, rfl, by show 2 ≤ sizeLine; decide, fun y' ny => ?_⟩
      have ne2 : upd H5 y' (.tup [.str wFind, .int (B.fs.length : Int)]) s.e = some (.lst (qs.map V.ref)) := by rw [upd_ne (ne_of_none e2 ny)]; exact e2
      refine ⟨s.e, _, _, rfl, rfl, ne2, by rw [List.length_map]; exact small1000 (by omega), ?_⟩
      dsimp only
      generalize E1 : upd (upd H5 y' (.tup [.str (Str.ofString "find"), .int (B.fs.length : Int)])) s.e (.lst (qs.map V.ref ++ [.ref y'])) = H6
      have k6 : ∀ b o, H5 b = some o → b ≠ s.e → H6 b = some o := fun b o e nb => by rw [← E1, upd_ne nb, upd_ne (ne_of_none e ny)]; exact e
      have d6 := k6 _ _ P5.st.dd (ne_of P5.st.dd e2 (by intro z; cases z))
      have f6' := k6 _ _ e1 P5.st.fe
      have e6 : H6 s.e = some (.lst (qs.map V.ref ++ [.ref y'])) := by rw [← E1, upd_same]
      have dg6 : DGet H6 s.d (.str (Str.ofString "found")) (some (.ref s.f)) := by rw [← sD_f s]; exact DGet.k (k := Sum.inr _) d6
      refine rd_seq (rd_expr (rd_bm ?_))
      refine ⟨_, rfl, s.d, _, rfl, dg6, .inl ⟨rfl, _, SqL.of f6'⟩, _, rfl, _, rfl, _, rfl, _, rfl, _, rfl, s.d, _, rfl, by rw [← sD_e s]; exact DGet.k (k := Sum.inr _) d6, s.e, _, rfl, .inl (SqL.of e6), by show 5 ≤ sizeLine; decide, fun z nz => ?_⟩
      rw [show ((qs.map V.ref ++ [V.ref y']).length : Int) = (B.ds.length : Int) + 1 by rw [List.length_append, List.length_map, lqs]; rfl]
      refine ⟨s.f, _, _, rfl, rfl, by rw [upd_ne (ne_of_none f6' nz)]; exact f6', by rw [List.length_map]; exact small1000 (by omega), ?_⟩
      dsimp only
      generalize E2 : upd (upd H6 z (.tup [.str k, .int x, .int y, .int v', .int ((B.ds.length : Int) + 1)])) s.f (.lst (ps.map V.ref ++ [.ref z])) = H7
      obtain ⟨S7, K7⟩ := P5.st.find e1 r1 e2 r2 ny E1.symm nz E2.symm
      have bk7 := P5.keeps K7
      have L7 : Lm L H7 := lam_keep L5 fun b o e n1 n2 => K7 b o e fun z => by
        rcases P5.st.kind z with ⟨ys, w⟩ | ⟨ys, w⟩
        · rw [e] at w; exact n1 ys (Option.some.inj w)
        · rw [e] at w; exact n2 ys (Option.some.inj w)
      obtain ⟨pL7, hL7⟩ := L7.tbl
      have ho7 := K7 _ _ ho5 (P5.st.not_ins ho5)
      refine rd_seq (rd_asg ⟨_, rfl, p, dx, _, rfl, ho7, bf_no a (by decide +kernel) (by decide +kernel) (by decide +kernel) (by decide +kernel) (by decide +kernel), _, rfl, _, rfl, _, rfl, _, rfl, p, a, F, B, k, x, y, v', rfl, L7, bk7, hkk, x0, xy, y4, by omega, by omega, h60, fun H' F' LH _ f1 gg bk' => ?_⟩)
      obtain ⟨A1, A2, A3⟩ := P5.after S7 K7 hL7 f1 gg bk'
      dsimp only [gName]
      refine rd_ret (rd_andV ⟨_, rfl, _, rfl, _, rfl, iteT ⟨_, rfl, _, rfl, rfl, ?_⟩⟩)
      rw [decide_eq_true rfl]
      refine q H' _ _ LH A1 (by show (B.ds ++ [_]).length = _; rw [List.length_append]; rfl) (by show 1 ≤ (B.fs ++ [_]).length; rw [List.length_append]; exact Nat.le_add_left _ _) ⟨B.fs.length, (k, x, y, v', (B.ds.length : Int) + 1), List.getElem?_concat_length, .inl ⟨rfl, rfl⟩⟩ (fun b hb => (A2 b hb).imp_right g15.free) fun b o e w1 w2 w3 => A3 b o (g15 b o e) w1 w2 w3
end
end Mine
namespace Mine
open PySem L2
abbrev sDays : Stmt := top 42
abbrev sTabs : Stmt := top 44
def noneV (x : Option V) : V := x.getD .non
theorem grow_own {H H2 : Hp} {a : Addr} {o : HO} (g : Grow H H2) (n : H a = none) : Grow H (upd H2 a o) := fun b o e => by rw [upd_ne (ne_of_none e n)]; exact g b o e
theorem paintG {H H2 : Hp} {dl : Addr} {g : Int → V} {f l : Int} {v : V} (nd0 : H dl = none) (g2 : Grow H H2) (h2 : H2 dl = some (.lst (Strip.dayL g))) (f0 : 0 ≤ f) (fl : f ≤ l) (l4 : l < 400) {p1 : Addr} (n1 : H2 p1 = none) {p2 : Addr} (n2 : upd H2 p1 (.lst [v]) p2 = none) :
    Grow H (upd (upd (upd H2 p1 (.lst [v])) p2 (.lst (List.replicate (l + 1 - f).toNat [v]).flatten)) dl (.lst ((Strip.dayL g).take f.toNat ++ (List.replicate (l + 1 - f).toNat [v]).flatten ++ (Strip.dayL g).drop (l + 1).toNat))) ∧
    upd (upd (upd H2 p1 (.lst [v])) p2 (.lst (List.replicate (l + 1 - f).toNat [v]).flatten)) dl (.lst ((Strip.dayL g).take f.toNat ++ (List.replicate (l + 1 - f).toNat [v]).flatten ++ (Strip.dayL g).drop (l + 1).toNat)) dl = some (.lst (Strip.dayL fun n => if f ≤ n ∧ n ≤ l then v else g n)) ∧
    upd (upd H2 p1 (.lst [v])) p2 (.lst (List.replicate (l + 1 - f).toNat [v]).flatten) dl = some (.lst (Strip.dayL g)) ∧ dl ≠ p2 := by
  have x1 : dl ≠ p1 := ne_of_none h2 n1
  have y1 : upd H2 p1 (.lst [v]) dl = some (.lst (Strip.dayL g)) := by rw [upd_ne x1]; exact h2
  have x2 : dl ≠ p2 := ne_of_none y1 n2
  have y2 : upd (upd H2 p1 (.lst [v])) p2 (.lst (List.replicate (l + 1 - f).toNat [v]).flatten) dl = some (.lst (Strip.dayL g)) := by rw [upd_ne x2]; exact y1
  exact ⟨grow_own ((g2.trans (Grow.new n1)).trans (Grow.new n2)) nd0, by rw [upd_same, Strip.dayL_put g f0 fl l4], y2, x2⟩
theorem lastN_st {fs : List Fnd} {c : Nat → Fnd → Bool} {i : Nat} {f : Fnd} (e : fs[i]? = some f) : lastN fs c (i + 1) = if c i f = true then some (i : Int) else lastN fs c i := by
  conv => lhs; unfold lastN
  rw [e]
theorem lastN_no {fs : List Fnd} {c : Nat → Fnd → Bool} {i : Nat} (e : fs[i]? = none) : lastN fs c (i + 1) = lastN fs c i := by
  conv => lhs; unfold lastN
  rw [e]
theorem lastN_minus {fs : List Fnd} {c c' : Nat → Fnd → Bool} {n : Nat} (h : ∀ j f, c' j f = (c j f && !decide (j = n))) : ∀ i, lastN fs c i ≠ some (n : Int) → lastN fs c' i = lastN fs c i
  | 0, _ => rfl
  | i + 1, hn => by
    cases e : fs[i]? with
    | none =>
      rw [lastN_no e] at hn ⊢
      rw [lastN_no e]
      exact lastN_minus h i hn
    | some f =>
      rw [lastN_st e] at hn ⊢
      rw [lastN_st e, h]
      cases hc : c i f with
      | false =>
        rw [hc] at hn
        exact lastN_minus h i hn
      | true =>
        rw [hc] at hn
        have : i ≠ n := fun z => hn (by rw [z]; rfl)
        rw [decide_eq_false this]; rfl
theorem lastN_ne {fs : List Fnd} {c : Nat → Fnd → Bool} {n : Nat} (h : ∀ f, c n f = false) (i : Nat) : lastN fs c i ≠ some (n : Int) := fun z => by
  obtain ⟨j, f, e1, _, _, e3⟩ := lastN_lt z
  have : n = j := by omega
  subst this
  rw [h] at e3
  cases e3
theorem withd_now {B : Bk} (O : B.Ok) {n : Nat} (hn : n < B.fs.length) (hr : B.ds.length < 60) (key : Str) (d : Int) :
    (B.spk key B.ds.length d ≠ some (n : Int) → (B.withd n).spk key ((B.ds.length : Int) + 1) d = B.spk key B.ds.length d) ∧ (B.withd n).spk key ((B.ds.length : Int) + 1) d ≠ some (n : Int) := by
  have O' := O.withd hn hr
  have el : ((B.withd n).ds.length : Int) = (B.ds.length : Int) + 1 := by simp [Bk.withd]
  have hc : ∀ j f, nowB (B.withd n).gs key d j f = (nowB B.gs key d j f && !decide (j = n)) := fun j f => by
    unfold nowB Bk.withd
    dsimp only
    rw [valV_put]
    by_cases h : j = n
    · subst h
      rw [if_pos rfl, decide_eq_true rfl]
      simp
    · rw [if_neg (fun z => h (by have := Sum.inl.inj z; omega)), decide_eq_false h]
      simp
  rw [← el, O'.now, O.now]
  refine ⟨fun h => lastN_minus hc _ h, lastN_ne (fun f => ?_) _⟩
  rw [hc, decide_eq_true rfl]
  simp
structure Step (B B' : Bk) (n : Nat) (f : Fnd) : Prop where
  wd : (B'.ds = B.ds ++ [(wFind, (n : Int))] ∧ ∀ d, B'.spk f.1 ((B.ds.length : Int) + 1) d = if f.2.1 ≤ d ∧ d ≤ f.2.2.1 then some (n : Int) else B.spk f.1 B.ds.length d) ∨ (B'.ds = B.ds ++ [(wWith, (n : Int))] ∧ ∀ d, (B.spk f.1 B.ds.length d ≠ some (n : Int) → B'.spk f.1 ((B.ds.length : Int) + 1) d = B.spk f.1 B.ds.length d) ∧ B'.spk f.1 ((B.ds.length : Int) + 1) d ≠ some (n : Int))
  oth : ∀ key, key ≠ f.1 → ∀ d, B'.spk key ((B.ds.length : Int) + 1) d = B.spk key B.ds.length d
  old : ∀ key (t : Int) d, t ≤ B.ds.length → B'.spk key t d = B.spk key t d
  fe : B'.fs[n]? = some f
  ke : B'.ks = B.ks
theorem Did.step {B B' : Bk} {n : Nat} {f : Fnd} (h : Did B B' n f) (O : B.Ok) (hr : B.ds.length < 60) : Step B B' n f := by
  obtain ⟨fe, ⟨rfl, rfl⟩ | ⟨rfl, hg⟩⟩ := h
  · refine ⟨.inl ⟨rfl, fun d => ?_⟩, fun key hk d => ?_, fun key t d ht => O.find_old ht key d, fe, rfl⟩
    · rw [O.find_now]
      by_cases c : f.2.1 ≤ d ∧ d ≤ f.2.2.1
      · rw [if_pos c, if_pos ⟨rfl, c⟩]
      · rw [if_neg c, if_neg fun z => c z.2]
    · rw [O.find_now, if_neg fun z => hk z.1.symm]
  · have fe' : B.fs[n]? = some f := fe
    have hn := (List.getElem?_eq_some_iff.mp fe').1
    exact ⟨.inr ⟨rfl, fun d => withd_now O hn hr f.1 d⟩, fun key hk d => O.withd_other fe' hr hk d, fun key t d ht => O.withd_old hg ht key d, fe, rfl⟩
def TabsN (H8 H : Hp) (x : Addr) (ks : List Str) (g : Str → Int → Option Int) : Prop := ∃ kvs, H x = some (.dK kvs) ∧ H8 x = none ∧ ∀ k ∈ ks, ∃ (ra : Addr) (rs : List RowV), valV kvs (Sum.inr k) = some (.ref ra) ∧ H8 ra = none ∧ RowsL H ra rs ∧ Strip.Tidy rs ∧ In400 rs ∧ ∀ d, Strip.dayOf rs d = (g k d).map V.int
theorem TabsN.keep {H8 H H' : Hp} {x : Addr} {ks : List Str} {g g' : Str → Int → Option Int} (h : TabsN H8 H x ks g) (hg : ∀ k d, g' k d = g k d) (k1 : ∀ b o, H b = some o → H8 b = none → H' b = some o) (k2 : ∀ b xs, H b = some (.tup xs) → H' b = some (.tup xs)) : TabsN H8 H' x ks g' := by
  obtain ⟨kvs, e, n, r⟩ := h
  refine ⟨kvs, k1 _ _ e n, n, fun k hk => ?_⟩
  obtain ⟨ra, rs, e1, n1, ⟨ps, e2, r2⟩, td, i4, dy⟩ := r k hk
  exact ⟨ra, rs, e1, n1, ⟨ps, k1 _ _ e2 n1, rowsP_mono r2 k2⟩, td, i4, fun d => by rw [dy, hg]⟩
theorem TabsN.grow {H8 H H' : Hp} {x : Addr} {ks : List Str} {g : Str → Int → Option Int} (h : TabsN H8 H x ks g) (gr : Grow H H') : TabsN H8 H' x ks g := h.keep (fun _ _ => rfl) (fun b o e _ => gr b o e) fun b xs e => gr b _ e
theorem days00 : (List.replicate (400 : Int).toNat [V.non]).flatten = Strip.dayL fun n => noneV (Strip.dayOf ([] : List RowV) n) := by
  have := Strip.dayL_put (fun _ => V.non) (f := 0) (l := 399) (by decide) (by decide) (by decide) .non
  rw [show (399 + 1 - 0 : Int).toNat = (400 : Int).toNat from rfl] at this
  have e1 : (Strip.dayL fun _ => V.non).take (0 : Int).toNat = [] := rfl
  have e2 : (Strip.dayL fun _ => V.non).drop (399 + 1 : Int).toNat = [] := List.drop_eq_nil_of_le (by rw [Strip.dayL_len]; decide)
  rw [e1, e2, List.nil_append, List.append_nil] at this
  rw [this]
  congr 1
  funext n
  split <;> rfl
def spDays : Sp := fun vs H Q _ => ∃ (a : Addr) (rs : List RowV), vs = [.ref a] ∧ RowsL H a rs ∧ In400 rs ∧ ∀ (dl : Addr) (H' : Hp), Grow H H' → H' dl = some (.lst (Strip.dayL fun n => noneV (Strip.dayOf rs n))) → Q (.ref dl) H'
def spTabs (C : Addr) : Sp := fun vs H Q _ => ∃ (p : Addr) (a : BA) (F : Addr → Prop) (B : Bk) (kl : Addr), vs = [.ref p, .ref kl] ∧ BkAt C H p a F B ∧ H kl = some (.lst (B.ks.map V.str)) ∧ ∀ (x : Addr) (H' : Hp), Grow H H' → TabsN H H' x B.ks (fun k d => B.spk k B.ds.length d) → Q (.ref x) H'
section
variable {P : Program} {w : World} {K : PySem.W.Frag} {mg : Str → Option Value} {base : Heap}
theorem scDays : FnScope ["_law_rows", "_law_days_here", "_law_first", "_law_last", "_law_number"] ["_law_rows"] (defScope sDays) := ⟨rfl, rfl, rfl, by decide +kernel, rfl, by decide +kernel, by decide +kernel⟩
theorem ok_days {f : Addr} {fd : FuncData} (F : Fun K "_law_days" "_law_days" sDays f fd)  : FnOk P w K mg base CX0 1 f fd ["_law_rows"] spDays := by
  refine F.ok (k := 0) scDays (fun vs H Q E h => ?_) (fun cdv A outer s H vs Q E hr h => ?_)
  · obtain ⟨a, rs, rfl, _⟩ := h
    rfl
  · obtain ⟨a, rs, rfl, ⟨ps, ha, hp⟩, i4, q⟩ := h
    have hu := hu_of hr
    refine ⟨_, (pss_cons (ps_set (i := 1) scDays.nd rfl (Or.inl rfl) (pe_op op_rep (pe_lst (pa_cons pe_non pa_nil)) pe_int))
      (pss_cons (ps_for PassesOwn.never rfl (pi_list (pv 0)) (pg_tup rfl (pgs_cons (pg_name (i := 2) scDays.nd rfl (Or.inl rfl)) (pgs_cons (pg_name (i := 3) scDays.nd rfl (Or.inl rfl)) (pgs_cons (pg_name (i := 4) scDays.nd rfl (Or.inl rfl)) pgs_nil))))
      (pss_one (ps_asg (pe_op op_rep (pe_lst (pa_cons (pv 4) pa_nil)) (pe_op op_sub (pe_op op_add (pv 3) pe_int) (pv 2))) (pg_slice (pv 1) (pv 2) (pe_op op_add (pv 3) pe_int)))))
      (pss_one (ps_ret (pv 1))))), ?_⟩
    have z400 : 1000 ≤ sizeLine := by decide
    have hlp := rowsP_len hp
    refine rd_seq (rd_asg ?_)
    refine ⟨by show 1 ≤ sizeLine; decide, fun w0 nw0 => ?_⟩
    refine ⟨w0, 400, _, rfl, rfl, upd_same, by decide, by decide, by show 1 * 400 ≤ sizeLine; omega, fun dl ndl => ?_⟩
    rw [days00]
    have g0 : Grow H (upd H w0 (.lst [V.non])) := Grow.new nw0
    have nd0 : H dl = none := g0.free ndl
    have g1 := g0.trans (Grow.new (o := .lst (Strip.dayL fun n => noneV (Strip.dayOf ([] : List RowV) n))) ndl)
    have hd1 : upd (upd H w0 (.lst [V.non])) dl (.lst (Strip.dayL fun n => noneV (Strip.dayOf ([] : List RowV) n))) dl = some (.lst (Strip.dayL fun n => noneV (Strip.dayOf ([] : List RowV) n))) := upd_same
    generalize upd (upd H w0 (.lst [V.non])) dl (.lst (Strip.dayL fun n => noneV (Strip.dayOf ([] : List RowV) n))) = H1 at g1 hd1
    dsimp only [gName]
    refine rd_seq ?_
    refine ⟨_, rfl, a, rfl, ⟨_, SqL.of (g1 _ _ ha)⟩, for_list (K := K) (a := a) (xs := ps.map V.ref) (fun i σ H2 => ∃ (v2 v3 v4 : Option V), σ = [some (.ref a), some (.ref dl), v2, v3, v4] ∧ Grow H H2 ∧ H2 dl = some (.lst (Strip.dayL fun n => noneV (Strip.dayOf (rs.take i) n))))
      ⟨none, none, none, rfl, g1, by rw [List.take_zero]; exact hd1⟩ (fun i σ H2 _ hh => ?_) ?_ ?_⟩
    · obtain ⟨_, _, _, _, g, _⟩ := hh
      exact SqL.of (g _ _ ha)
    · rintro i y σ H2 hi ⟨v2, v3, v4, rfl, g2, hd2⟩
      rw [List.getElem?_map] at hi
      cases ep : ps[i]? with
      | none => rw [ep] at hi; cases hi
      | some p =>
        rw [ep] at hi
        cases hi
        obtain ⟨r, er, ht0, hmk⟩ := rowsP_get hp ep
        have ht := g2 _ _ ht0
        obtain ⟨r0, r1, r2⟩ := i4 r (List.mem_of_getElem? er)
        refine ⟨p, _, rfl, SqT.of ht, rfl, _, _, rfl, _, _, rfl, _, _, rfl, rfl, ?_⟩
        dsimp only
        refine rd_asg ?_
        refine ⟨_, rfl, by show 1 ≤ sizeLine; decide, fun p1 n1 => ?_⟩
        refine ⟨_, rfl, _, _, rfl, rfl, _, rfl, _, _, rfl, rfl, p1, _, _, rfl, rfl, upd_same, by omega, by omega, ?_, fun p2 n2 => ?_⟩
        · show 1 * (r.2.1 + 1 - r.1).toNat ≤ sizeLine
          omega
        obtain ⟨k1, k2, k3, k4⟩ := paintG nd0 g2 hd2 r0 r1 r2 n1 n2
        refine ⟨_, rfl, _, rfl, _, rfl, _, _, rfl, rfl, dl, p2, _, _, r.1, r.2.1 + 1, rfl, rfl, rfl, rfl, k3, upd_same, k4, r0, by omega, by rw [Strip.dayL_len]; omega, ?_, _, _, _, rfl, k1, ?_⟩
        · rw [Strip.dayL_len, len_rep]
          show 400 + (r.2.1 + 1 - r.1).toNat * 1 ≤ sizeLine
          omega
        · rw [k2]
          congr 2
          congr 1
          funext n
          rw [Strip.take_snoc er, Strip.dayOf_snoc]
          by_cases c : r.1 ≤ n ∧ n ≤ r.2.1
          · rw [if_pos c, if_pos (show Strip.Has r n from c)]; rfl
          · rw [if_neg c, if_neg (show ¬ Strip.Has r n from c)]
    · rintro σ H2 ⟨v2, v3, v4, rfl, g2, hd2⟩
      dsimp only
      refine rd_ret ⟨_, rfl, ?_⟩
      rw [List.length_map, hlp, List.take_length] at hd2
      exact q dl H2 g2 hd2
end
section
variable {P : Program} {w : World} {K : PySem.W.Frag} {mg : Str → Option Value} {base : Heap}
theorem scTabs : FnScope ["_law_book", "_law_keys_here", "_law_found", "_law_key"] ["_law_book", "_law_keys_here"] (defScope sTabs) := ⟨rfl, rfl, rfl, by decide +kernel, rfl, by decide +kernel, by decide +kernel⟩
theorem ok_tabs {f f1 C : Addr} {fd : FuncData} (F : Fun K "_law_tables" "_law_tables" sTabs f fd) {fd1 : FuncData} (T1 : MC P w K mg base C "table" 3 ["self", "key", "turn"] [Value.none] [V.non] (spTable C) f1 fd1) : FnOk P w K mg base CX0 4 f fd ["_law_book", "_law_keys_here"] (spTabs C) := by
  refine F.ok (k := 3) scTabs (fun vs H Q E h => ?_) (fun cdv A outer s H vs Q E hr h => ?_)
  · obtain ⟨p, a, F, B, kl, rfl, _⟩ := h
    rfl
  · obtain ⟨p, a, F, B, kl, rfl, h, hk, q⟩ := h
    have hu := hu_of hr
    refine ⟨_, (pss_cons (ps_set (i := 2) scTabs.nd rfl (Or.inl rfl) pe_dnewK)
      (pss_cons (ps_for PassesOwn.never rfl (pi_list (pv 1)) (pg_name (i := 3) scTabs.nd rfl (Or.inl rfl))
      (pss_one (ps_dput hu (pv 2) (pv 3) (pe_meth (pv 0) T1.cl T1.mt T1.ok (hr.mono (by decide)) T1.bd T1.dv pass0 (pa_cons (pv 3) pa_nil)) rfl)))
      (pss_one (ps_ret (pv 2))))), ?_⟩
    obtain ⟨dx, ho⟩ := h.ob
    have O := h.ok
    have bkG : ∀ {H2 : Hp}, Grow H H2 → BkAt C H2 p a F B := fun g => h.keep ⟨fun b o _ e => g b o e, fun b xs e => g b _ e, fun b c dx fs e => g b _ e⟩
    refine rd_seq (rd_asg ?_)
    intro x nx
    dsimp only [gName]
    have g1 : Grow H (upd H x (.dK [])) := Grow.new nx
    have e1 : upd H x (.dK []) x = some (.dK []) := upd_same
    generalize upd H x (.dK []) = H1 at g1 e1
    refine rd_seq ?_
    refine ⟨_, rfl, kl, rfl, ⟨_, SqL.of (g1 _ _ hk)⟩, for_list (K := K) (a := kl) (xs := B.ks.map V.str) (fun i σ H2 => ∃ (v3 : Option V), σ = [some (.ref p), some (.ref kl), some (.ref x), v3] ∧ Grow H H2 ∧ TabsN H H2 x (B.ks.take i) (fun k d => B.spk k B.ds.length d) ∧ ∃ kvs, H2 x = some (.dK kvs) ∧ kvs.length ≤ i)
      ⟨none, rfl, g1, ⟨[], e1, nx, (fun k hk => by rw [List.take_zero] at hk; cases hk)⟩, [], e1, Nat.le_refl _⟩ (fun i σ H2 _ hh => ?_) ?_ ?_⟩
    · obtain ⟨_, _, g, _⟩ := hh
      exact SqL.of (g _ _ hk)
    · rintro i y σ H2 hi ⟨v3, rfl, g2, T2, kvs, ex, hln⟩
      have k8 := O.k8
      rw [List.getElem?_map] at hi
      cases ek : B.ks[i]? with
      | none => rw [ek] at hi; cases hi
      | some k =>
        rw [ek] at hi
        cases hi
        have hi8 := (List.getElem?_eq_some_iff.mp ek).1
        have hkm := List.mem_of_getElem? ek
        dsimp only [gName]
        refine ⟨_, rfl, p, dx, _, rfl, g2 _ _ ho, bf_no a (by decide +kernel) (by decide +kernel) (by decide +kernel) (by decide +kernel) (by decide +kernel), _, rfl, p, a, F, B, k, .non, B.ds.length, rfl, (bkG g2).toT, hkm, Nat.le_refl _, .inl ⟨rfl, rfl⟩, fun l ps rs nl hp td i4 dy => ?_⟩
        have g3 : Grow H2 (upd H2 l (.lst (ps.map V.ref))) := Grow.new nl
        have el : upd H2 l (.lst (ps.map V.ref)) l = some (.lst (ps.map V.ref)) := upd_same
        generalize upd H2 l (.lst (ps.map V.ref)) = H3 at g3 el
        have ex3 := g3 _ _ ex
        have T3 := T2.grow g3
        have nlH : H l = none := g2.free nl
        refine ⟨_, rfl, _, rfl, x, _, rfl, DPut.k (k := Sum.inr k) ex3 (small1000 (by omega)), ?_⟩
        have xl : l ≠ x := ne_of el ex3 (by intro z; cases z)
        have kp : ∀ b o, H3 b = some o → b ≠ x → upd H3 x (.dK (putK kvs (Sum.inr k) (.ref l))) b = some o := fun b o e nb => by rw [upd_ne nb]; exact e
        refine ⟨_, rfl, grow_own (g2.trans g3) nx, ⟨_, upd_same, nx, fun k' hk' => ?_⟩, _, upd_same, ?_⟩
        · rw [valV_put]
          by_cases z : (Sum.inr k' : Key) = Sum.inr k
          · have z' : k' = k := Sum.inr.inj z
            rw [if_pos z]
            refine ⟨l, rs, rfl, nlH, ⟨ps, kp _ _ el xl, rowsP_mono hp fun b xs e => kp _ _ (g3 _ _ e) (ne_of (g3 _ _ e) ex3 (by intro z; cases z))⟩, td, i4, fun d => ?_⟩
            rw [dy, z']
          · rw [if_neg z]
            have hk2 : k' ∈ B.ks.take i := by
              rw [Strip.take_snoc ek] at hk'
              rcases List.mem_append.mp hk' with hk' | hk'
              · exact hk'
              · exact absurd (by rw [List.mem_singleton.mp hk']) z
            obtain ⟨kvs', e', _, r'⟩ := T3
            rw [ex3] at e'
            cases e'
            obtain ⟨ra, rs', x1, x2, ⟨ps', x3, x4⟩, x5, x6, x7⟩ := r' k' hk2
            exact ⟨ra, rs', x1, x2, ⟨ps', kp _ _ x3 (ne_of x3 ex3 (by intro z; cases z)), rowsP_mono x4 fun b xs e => kp _ _ e (ne_of e ex3 (by intro z; cases z))⟩, x5, x6, x7⟩
        · have := length_putK kvs (Sum.inr k) (V.ref l)
          omega
    · rintro σ H2 ⟨v3, rfl, g2, T2, _⟩
      dsimp only
      rw [List.length_map, List.take_length] at T2
      exact rd_ret ⟨_, rfl, q x H2 g2 T2⟩
end
end Mine
namespace Mine
open PySem L2
abbrev sStep : Stmt := top 43
theorem mark_of (o : Option Int) : MarkV (noneV (o.map V.int)) := by
  cases o <;> trivial
theorem Step.word {B B' : Bk} {n : Nat} {f : Fnd} (S : Step B B' n f) : ∃ wd, B'.ds = B.ds ++ [(wd, (n : Int))] ∧ ((wd = wFind ∧ ∀ d, B'.spk f.1 ((B.ds.length : Int) + 1) d = if f.2.1 ≤ d ∧ d ≤ f.2.2.1 then some (n : Int) else B.spk f.1 B.ds.length d) ∨ (wd = wWith ∧ ∀ d, (B.spk f.1 B.ds.length d ≠ some (n : Int) → B'.spk f.1 ((B.ds.length : Int) + 1) d = B.spk f.1 B.ds.length d) ∧ B'.spk f.1 ((B.ds.length : Int) + 1) d ≠ some (n : Int))) := by
  rcases S.wd with ⟨e, h⟩ | ⟨e, h⟩
  · exact ⟨_, e, .inl ⟨rfl, h⟩⟩
  · exact ⟨_, e, .inr ⟨rfl, h⟩⟩
theorem last_at {qs : List Addr} {yd : Addr} (e : qs[qs.length - 1]? = some yd) : atI (qs.map V.ref) (-1) = some (V.ref yd) := by
  rcases List.eq_nil_or_concat qs with e1 | ⟨q0, l0, e1⟩
  · rw [e1] at e; simp at e
  · rw [List.concat_eq_append] at e1
    rw [e1] at e ⊢
    rw [List.length_append] at e
    have : some l0 = some yd := by rw [← e]; exact List.getElem?_concat_length.symm
    cases this
    rw [List.map_append]
    exact atI_last _ _
theorem non_some {o : Option Int} {n : Int} (h : noneV (o.map V.int) = V.int n) : o = some n := by
  cases o with
  | none => cases h
  | some z => cases h; rfl
theorem dFF : decide (V.str wFind = V.str (Str.ofString "find")) = true := by decide +kernel
theorem dFW : decide (V.str wFind = V.str (Str.ofString "withdraw")) = false := by decide +kernel
theorem dWF : decide (V.str wWith = V.str (Str.ofString "find")) = false := by decide +kernel
theorem dWW : decide (V.str wWith = V.str (Str.ofString "withdraw")) = true := by decide +kernel
def spStep : Sp := fun vs H Q _ => ∃ (s : SA) (B B' : Bk) (n : Nat) (f : Fnd) (x y : Addr) (H8 : Hp), vs = [.ref s.d, .ref x, .ref y] ∧ StAt H s B' ∧ B'.Ok ∧ Step B B' n f ∧ TabsN H8 H x B.ks (fun k d => B.spk k B.ds.length d) ∧ TabsN H8 H y B.ks (fun k d => B'.spk k ((B.ds.length : Int) + 1) d) ∧ ∀ H', Grow H H' → Q (.bl true) H'
section
variable {P : Program} {w : World} {K : PySem.W.Frag} {mg : Str → Option Value} {base : Heap}
theorem scStep : FnScope ["_law_state_here", "_law_before", "_law_behind", "_law_word", "_law_number", "_law_key", "_law_first", "_law_last", "_law_other", "_law_was", "_law_now", "_law_day"] ["_law_state_here", "_law_before", "_law_behind"] (defScope sStep) := ⟨rfl, rfl, rfl, by decide +kernel, rfl, by decide +kernel, by decide +kernel⟩
theorem ok_step {f f1 : Addr} {fd : FuncData} (F : Fun K "_law_step_right" "_law_step_right" sStep f fd) (N : Free mg) {fd1 : FuncData} (CY : Cal P w K mg base "_law_days" 1 ["_law_rows"] spDays f1 fd1) : FnOk P w K mg base CX0 2 f fd ["_law_state_here", "_law_before", "_law_behind"] spStep := by
  refine F.ok (k := 1) scStep (fun vs H Q E h => ?_) (fun cdv A outer s H vs Q E hr h => ?_)
  · obtain ⟨s, B, B', n, f, x, y, H8, rfl, _⟩ := h
    rfl
  · obtain ⟨s, B, B', n, f, x, y, H8, rfl, hs, O, S, TX, TY, q⟩ := h
    have hu := hu_of hr
    refine ⟨_, (pss_cons (ps_asg (pe_ix ix_list (pe_dget hu (pv 0) pe_str (fun _ _ => rfl)) (pe_un un_neg pe_int) (fun _ _ => rfl)) (pg_tup rfl (pgs_cons (pg_name (i := 3) scStep.nd rfl (Or.inl rfl)) (pgs_cons (pg_name (i := 4) scStep.nd rfl (Or.inl rfl)) pgs_nil))))
      (pss_cons (ps_asg (pe_slice sl_tup (pe_ix ix_list (pe_dget hu (pv 0) pe_str (fun _ _ => rfl)) (pv 4) (fun _ _ => rfl)) po_none (po_some pe_int)) (pg_tup rfl (pgs_cons (pg_name (i := 5) scStep.nd rfl (Or.inl rfl)) (pgs_cons (pg_name (i := 6) scStep.nd rfl (Or.inl rfl)) (pgs_cons (pg_name (i := 7) scStep.nd rfl (Or.inl rfl)) pgs_nil)))))
      (pss_cons (ps_for PassesOwn.never rfl (pi_list (pe_dget hu (pv 0) pe_str (fun _ _ => rfl))) (pg_name (i := 8) scStep.nd rfl (Or.inl rfl))
      (pss_one (ps_if (PW.pt (pw_and (pt_cmpR op_ne (pv 8) (pv 5) (nomark _)) (pw_and1 (pt_cmpR (op_neRows hr.units) (pe_dget hu (pv 2) (pv 8) (fun _ _ => rfl)) (pe_dget hu (pv 1) (pv 8) (fun _ _ => rfl)) (nomark _))))) (pss_one (ps_ret pe_bl)) pss_nil)))
      (pss_cons (ps_set (i := 9) scStep.nd rfl (Or.inl rfl) (pe_call CY.ok (hr.mono (by decide)) rfl CY.nm CY.kp CY.bd .nil pass0 (pa_cons (pe_dget hu (pv 1) (pv 5) (fun _ _ => rfl)) pa_nil)))
      (pss_cons (ps_set (i := 10) scStep.nd rfl (Or.inl rfl) (pe_call CY.ok (hr.mono (by decide)) rfl CY.nm CY.kp CY.bd .nil pass0 (pa_cons (pe_dget hu (pv 2) (pv 5) (fun _ _ => rfl)) pa_nil)))
      (pss_cons (ps_for PassesOwn.never rfl (pi_range1 rfl N.range (pa_cons pe_int pa_nil)) (pg_name (i := 11) scStep.nd rfl (Or.inl rfl))
      (pss_cons (ps_if (PW.pt (pw_and (pt_cmpR op_eq (pv 3) pe_str (nomark _)) (pw_and1 (pt_cmpR op_ne (pe_ix ix_list (pv 10) (pv 11) (fun _ _ => rfl)) (pe_ix ix_list (pe_lst (pa_cons (pe_ix ix_list (pv 9) (pv 11) (fun _ _ => rfl)) (pa_cons (pv 4) pa_nil))) (pe_callTy call_int1 (by rfl) N.int PyProof.Rows.Boot.«int» (pa_cons (pe_chain op_le op_le (pv 6) (pv 11) (pv 7)) pa_nil)) (fun _ _ => rfl)) (nomark _))))) (pss_one (ps_ret pe_bl)) pss_nil)
      (pss_cons (ps_if (PW.pt (pw_and (pt_cmpR op_eq (pv 3) pe_str (nomark _)) (pw_and (pt_cmpR op_ne (pe_ix ix_list (pv 9) (pv 11) (fun _ _ => rfl)) (pv 4) (nomark _)) (pw_and1 (pt_cmpR op_ne (pe_ix ix_list (pv 10) (pv 11) (fun _ _ => rfl)) (pe_ix ix_list (pv 9) (pv 11) (fun _ _ => rfl)) (nomark _)))))) (pss_one (ps_ret pe_bl)) pss_nil)
      (pss_one (ps_if (PW.pt (pw_and (pt_cmpR op_eq (pv 3) pe_str (nomark _)) (pw_and1 (pt_cmpR op_eq (pe_ix ix_list (pv 10) (pv 11) (fun _ _ => rfl)) (pv 4) (nomark _))))) (pss_one (ps_ret pe_bl)) pss_nil)))))
      (pss_one (ps_ret pe_bl)))))))), ?_⟩
    obtain ⟨ps, q1, r1⟩ := id hs.hf
    obtain ⟨qs, q2, r2⟩ := id hs.he
    have lqs : qs.length = B'.ds.length := Paired.length r2
    obtain ⟨wd, ed, hwd⟩ := S.word
    have elast : B'.ds[B'.ds.length - 1]? = some (wd, (n : Int)) := by rw [ed, List.length_append]; exact List.getElem?_concat_length
    obtain ⟨yd, eyd, hyd⟩ := Deed_get r2 elast
    rw [← lqs] at eyd
    obtain ⟨yf, eyf, hyf⟩ := Fnd_get r1 S.fe
    have hkf : f.1 ∈ B.ks := by rw [← S.ke]; exact (O.fin f (List.mem_of_getElem? S.fe)).1
    have hkk := hs.hk
    rw [S.ke] at hkk
    refine rd_seq (rd_asg ⟨_, rfl, s.d, _, rfl, hs.d_e, 1, rfl, s.e, _, -1, V.ref yd, rfl, rfl, SqL.of q2, last_at eyd, ?_⟩)
    refine ⟨yd, _, rfl, SqT.of hyd, rfl, _, _, rfl, _, _, rfl, rfl, ?_⟩
    dsimp only [gName]
    refine rd_seq (rd_asg ⟨_, rfl, s.d, _, rfl, hs.d_f, _, rfl, s.f, _, _, V.ref yf, rfl, rfl, SqL.of q1, atI_nat (by rw [List.getElem?_map, eyf]; rfl), 3, rfl, yf, _, rfl, SqT.of hyf, (by show ¬ (HT.sIx 5 0 none = 0 ∧ HT.sIx 5 5 (some 3) = 5); decide), fun p3 n3 => ?_⟩)
    have g1 : Grow H (upd H p3 (.tup (cutV (tupF f) none (some 3)))) := Grow.new n3
    have e3 : upd H p3 (.tup (cutV (tupF f) none (some 3))) p3 = some (.tup [.str f.1, .int f.2.1, .int f.2.2.1]) := upd_same
    generalize upd H p3 (.tup (cutV (tupF f) none (some 3))) = H1 at g1 e3
    refine ⟨p3, _, rfl, SqT.of e3, rfl, _, _, rfl, _, _, rfl, _, _, rfl, rfl, ?_⟩
    dsimp only [gName]
    have stG : ∀ {H2 : Hp}, Grow H H2 → StAt H2 s B' := fun g => hs.keep (fun b o _ e => g b o e) fun b xs e => g b _ e
    have getX : ∀ {H2 : Hp}, Grow H H2 → ∀ k ∈ B.ks, ∃ (ra : Addr) (rs : List RowV), DGet H2 x (.str k) (some (.ref ra)) ∧ RowsL H2 ra rs ∧ Strip.Tidy rs ∧ In400 rs ∧ ∀ d, Strip.dayOf rs d = (B.spk k B.ds.length d).map V.int := fun g k hk => by
      obtain ⟨kvs, e, _, r⟩ := TX.grow g
      obtain ⟨ra, rs, v1, _, v3, v4, v5, v6⟩ := r k hk
      exact ⟨ra, rs, by rw [← v1]; exact DGet.k (k := Sum.inr k) e, v3, v4, v5, v6⟩
    have getY : ∀ {H2 : Hp}, Grow H H2 → ∀ k ∈ B.ks, ∃ (ra : Addr) (rs : List RowV), DGet H2 y (.str k) (some (.ref ra)) ∧ RowsL H2 ra rs ∧ Strip.Tidy rs ∧ In400 rs ∧ ∀ d, Strip.dayOf rs d = (B'.spk k ((B.ds.length : Int) + 1) d).map V.int := fun g k hk => by
      obtain ⟨kvs, e, _, r⟩ := TY.grow g
      obtain ⟨ra, rs, v1, _, v3, v4, v5, v6⟩ := r k hk
      exact ⟨ra, rs, by rw [← v1]; exact DGet.k (k := Sum.inr k) e, v3, v4, v5, v6⟩
    refine rd_seq ?_
    refine ⟨_, rfl, s.d, _, rfl, (stG g1).d_k, s.k, rfl, ⟨_, SqL.of (g1 _ _ hkk)⟩, for_list (K := K) (a := s.k) (xs := B.ks.map V.str) (fun i σ H2 => ∃ (v8 : Option V), σ = [some (.ref s.d), some (.ref x), some (.ref y), some (.str wd), some (.int (n : Int)), some (.str f.1), some (.int f.2.1), some (.int f.2.2.1), v8, none, none, none] ∧ H2 = H1)
      ⟨none, rfl, rfl⟩ (fun i σ H2 _ hh => ?_) ?_ ?_⟩
    · obtain ⟨_, _, rfl⟩ := hh
      exact SqL.of (g1 _ _ hkk)
    · rintro i z σ H2 hi ⟨v8, rfl, rfl⟩
      rw [List.getElem?_map] at hi
      cases ek : B.ks[i]? with
      | none => rw [ek] at hi; cases hi
      | some k =>
        rw [ek] at hi
        cases hi
        have hkm := List.mem_of_getElem? ek
        dsimp only [gName]
        refine rd_if ?_
        refine ⟨_, rfl, _, rfl, rfl, _, rfl, ?_⟩
        by_cases hk : k = f.1
        · rw [decide_eq_true (show V.str k = V.str f.1 by rw [hk])]
          exact iteF (iteF (rd_next ⟨_, rfl, rfl⟩))
        · rw [decide_eq_false (fun z => hk (V.str.inj z))]
          obtain ⟨ra, rs, d1, w1, t1, i1, y1⟩ := getX g1 k hkm
          obtain ⟨rb, rs', d2, w2, t2, i2, y2⟩ := getY g1 k hkm
          have es : rs' = rs := Strip.tidy_unique t2 t1 fun m => by rw [y1, y2, S.oth k hk]
          exact iteT ⟨_, rfl, _, rfl, y, _, rfl, d2, _, rfl, _, rfl, x, _, rfl, d1, rb, ra, rs', rs, rfl, rfl, w2, w1, true, ⟨fun _ => es, fun _ => rfl⟩, _, rfl, iteF (rd_next ⟨_, rfl, rfl⟩)⟩
    · rintro σ H2 ⟨v8, rfl, rfl⟩
      obtain ⟨ra, rs, d1, w1, t1, i1, y1⟩ := getX g1 f.1 hkf
      dsimp only
      refine rd_seq (rd_asg ⟨_, rfl, _, rfl, x, _, rfl, d1, ra, rs, rfl, w1, i1, fun dw H3 g3 hw3 => ?_⟩)
      have g03 := g1.trans g3
      obtain ⟨rb, rs', d2, w2, t2, i2, y2⟩ := getY g03 f.1 hkf
      dsimp only [gName]
      refine rd_seq (rd_asg ⟨_, rfl, _, rfl, y, _, rfl, d2, rb, rs', rfl, w2, i2, fun dn H4 g4 hn4 => ?_⟩)
      have hw4 := g4 _ _ hw3
      have g04 := g03.trans g4
      dsimp only [gName]
      refine rd_seq ?_
      refine ⟨_, rfl, by decide, by decide, ?_⟩
      refine for_range (lo := 0) (n := 400) (fun i σ H5 => ∃ v11 : Option V, σ = [some (.ref s.d), some (.ref x), some (.ref y), some (.str wd), some (.int (n : Int)), some (.str f.1), some (.int f.2.1), some (.int f.2.2.1), v8, some (.ref dw), some (.ref dn), v11] ∧ Grow H4 H5) ⟨none, rfl, Grow.refl⟩ ?_ ?_
      · rintro i σ H5 hi ⟨v11, rfl, g5⟩
        have aw : atI (Strip.dayL fun m => noneV (Strip.dayOf rs m)) (0 + (i : Int)) = some (noneV (Strip.dayOf rs (i : Int))) := by rw [Int.zero_add]; exact atI_nat (Strip.dayL_get _ hi)
        have an : atI (Strip.dayL fun m => noneV (Strip.dayOf rs' m)) (0 + (i : Int)) = some (noneV (Strip.dayOf rs' (i : Int))) := by rw [Int.zero_add]; exact atI_nat (Strip.dayL_get _ hi)
        rw [y1] at aw
        rw [y2] at an
        have mw := mark_of (B.spk f.1 B.ds.length (i : Int))
        have mn := mark_of (B'.spk f.1 ((B.ds.length : Int) + 1) (i : Int))
        have hw5 := g5 _ _ hw4
        have hn5 := g5 _ _ hn4
        dsimp only [gName]
        rcases hwd with ⟨rfl, hd⟩ | ⟨rfl, hd⟩
        · have ev := hd (i : Int)
          have fin : ∀ H6 : Hp, Grow H4 H6 → _ := fun H6 g6 => (⟨_, rfl, g6⟩ : ∃ v11 : Option V, [some (V.ref s.d), some (.ref x), some (.ref y), some (.str wFind), some (.int (n : Int)), some (.str f.1), some (.int f.2.1), some (.int f.2.2.1), v8, some (.ref dw), some (.ref dn), some (.int (0 + (i : Int)))] = [some (.ref s.d), some (.ref x), some (.ref y), some (.str wFind), some (.int (n : Int)), some (.str f.1), some (.int f.2.1), some (.int f.2.2.1), v8, some (.ref dw), some (.ref dn), v11] ∧ Grow H4 H6)
          refine rd_seq (rd_if ?_)
          refine ⟨_, rfl, rfl, _, rfl, ?_⟩
          rw [dFF]
          refine iteT ⟨_, rfl, _, rfl, dn, _, _, _, rfl, rfl, SqL.of hn5, an, _, rfl, _, rfl, dw, _, _, _, rfl, rfl, SqL.of hw5, aw, _, rfl, by show 2 ≤ sizeLine; decide, fun p1 n1 => ?_⟩
          have g6 : Grow H4 (upd H5 p1 (.lst [noneV ((B.spk f.1 B.ds.length (i : Int)).map V.int), .int (n : Int)])) := g5.trans (Grow.new n1)
          have e6 : upd H5 p1 (.lst [noneV ((B.spk f.1 B.ds.length (i : Int)).map V.int), .int (n : Int)]) p1 = some (.lst [noneV ((B.spk f.1 B.ds.length (i : Int)).map V.int), .int (n : Int)]) := upd_same
          generalize upd H5 p1 (.lst [noneV ((B.spk f.1 B.ds.length (i : Int)).map V.int), .int (n : Int)]) = H6 at g6 e6
          refine ⟨_, rfl, _, rfl, _, _, rfl, rfl, _, rfl, ?_⟩
          have fits : ∀ v, B'.spk f.1 ((B.ds.length : Int) + 1) (i : Int) = v → noneV ((B'.spk f.1 ((B.ds.length : Int) + 1) (i : Int)).map V.int) = noneV (v.map V.int) := fun v e => by rw [e]
          by_cases c1 : f.2.1 ≤ 0 + (i : Int)
          · rw [decide_eq_true c1]
            refine iteT ⟨_, rfl, _, _, rfl, rfl, .inr ⟨_, rfl, ?_⟩⟩
            by_cases c2 : 0 + (i : Int) ≤ f.2.2.1
            · rw [decide_eq_true c2]
              rw [if_pos ⟨by omega, by omega⟩] at ev
              refine ⟨p1, _, 1, V.int (n : Int), rfl, rfl, SqL.of e6, rfl, scal_marks mn trivial, _, rfl, ?_⟩
              rw [decide_eq_true (show noneV ((B'.spk f.1 ((B.ds.length : Int) + 1) (i : Int)).map V.int) = V.int (n : Int) from fits _ ev)]
              refine iteF (rd_next ?_)
              dsimp only
              refine rd_seq (rd_if ?_)
              refine ⟨_, rfl, rfl, _, rfl, ?_⟩
              rw [dFW]
              refine iteF (iteF (rd_next ?_))
              dsimp only
              refine rd_if ?_
              refine ⟨_, rfl, rfl, _, rfl, ?_⟩
              rw [dFW]
              exact iteF (iteF (rd_next (fin H6 g6)))
            · rw [decide_eq_false c2]
              rw [if_neg (by omega)] at ev
              refine ⟨p1, _, 0, _, rfl, rfl, SqL.of e6, rfl, scal_marks mn mw, _, rfl, ?_⟩
              rw [decide_eq_true (fits _ ev)]
              refine iteF (rd_next ?_)
              dsimp only
              refine rd_seq (rd_if ?_)
              refine ⟨_, rfl, rfl, _, rfl, ?_⟩
              rw [dFW]
              refine iteF (iteF (rd_next ?_))
              dsimp only
              refine rd_if ?_
              refine ⟨_, rfl, rfl, _, rfl, ?_⟩
              rw [dFW]
              exact iteF (iteF (rd_next (fin H6 g6)))
          · rw [decide_eq_false c1]
            rw [if_neg (by omega)] at ev
            refine iteF (.inr ⟨_, rfl, ?_⟩)
            refine ⟨p1, _, 0, _, rfl, rfl, SqL.of e6, rfl, scal_marks mn mw, _, rfl, ?_⟩
            rw [decide_eq_true (fits _ ev)]
            refine iteF (rd_next ?_)
            dsimp only
            refine rd_seq (rd_if ?_)
            refine ⟨_, rfl, rfl, _, rfl, ?_⟩
            rw [dFW]
            refine iteF (iteF (rd_next ?_))
            dsimp only
            refine rd_if ?_
            refine ⟨_, rfl, rfl, _, rfl, ?_⟩
            rw [dFW]
            exact iteF (iteF (rd_next (fin H6 g6)))
        · obtain ⟨hd1, hd2⟩ := hd (i : Int)
          refine rd_seq (rd_if ?_)
          refine ⟨_, rfl, rfl, _, rfl, ?_⟩
          rw [dWF]
          refine iteF (iteF (rd_next ?_))
          dsimp only
          refine rd_seq (rd_if ?_)
          refine ⟨_, rfl, rfl, _, rfl, ?_⟩
          rw [dWW]
          refine iteT ⟨_, rfl, _, rfl, dw, _, _, _, rfl, rfl, SqL.of hw5, aw, _, rfl, scal_marks mw trivial, _, rfl, ?_⟩
          have hne : ¬ noneV ((B'.spk f.1 ((B.ds.length : Int) + 1) (i : Int)).map V.int) = V.int (n : Int) := fun z => hd2 (non_some z)
          by_cases c : noneV ((B.spk f.1 B.ds.length (i : Int)).map V.int) = V.int (n : Int)
          · rw [decide_eq_true c]
            refine iteF (iteF (rd_next ?_))
            dsimp only
            refine rd_if ?_
            refine ⟨_, rfl, rfl, _, rfl, ?_⟩
            rw [dWW]
            refine iteT ⟨_, rfl, _, rfl, dn, _, _, _, rfl, rfl, SqL.of hn5, an, _, rfl, scal_marks mn trivial, _, rfl, ?_⟩
            rw [decide_eq_false hne]
            exact iteF (rd_next ⟨_, rfl, g5⟩)
          · rw [decide_eq_false c]
            have ev := hd1 fun z => c (by rw [z]; rfl)
            refine iteT ⟨_, rfl, _, rfl, dn, _, _, _, rfl, rfl, SqL.of hn5, an, _, rfl, _, rfl, dw, _, _, _, rfl, rfl, SqL.of hw5, aw, scal_marks mn mw, _, rfl, ?_⟩
            rw [decide_eq_true (show noneV ((B'.spk f.1 ((B.ds.length : Int) + 1) (i : Int)).map V.int) = noneV ((B.spk f.1 B.ds.length (i : Int)).map V.int) by rw [ev])]
            refine iteF (rd_next ?_)
            dsimp only
            refine rd_if ?_
            refine ⟨_, rfl, rfl, _, rfl, ?_⟩
            rw [dWW]
            refine iteT ⟨_, rfl, _, rfl, dn, _, _, _, rfl, rfl, SqL.of hn5, an, _, rfl, scal_marks mn trivial, _, rfl, ?_⟩
            rw [decide_eq_false hne]
            exact iteF (rd_next ⟨_, rfl, g5⟩)
      · rintro σ H5 ⟨v11, rfl, g5⟩
        dsimp only
        exact rd_ret (q H5 (g04.trans g5))
end
end Mine
namespace Mine
open PySem L2
abbrev sInit : Stmt := inClass (top 29) 0
theorem fld_put {C : Addr} {H : Hp} {x n dx : Addr} {o : HO} {fs fs' : List (Str × V)} (hx : H x = some (.ins C dx fs)) (nn : H n = none) :
    upd H n o x = some (.ins C dx fs) ∧ upd (upd H n o) x (.ins C dx fs') x = some (.ins C dx fs') ∧ upd (upd H n o) x (.ins C dx fs') n = some o ∧ ∀ b u, H b = some u → b ≠ x → upd (upd H n o) x (.ins C dx fs') b = some u := by
  have nx : x ≠ n := ne_of_none hx nn
  refine ⟨by rw [upd_ne nx]; exact hx, upd_same, by rw [upd_ne (Ne.symm nx), upd_same], fun b u e h => ?_⟩
  rw [upd_ne h, upd_ne (ne_of_none e nn)]
  exact e
theorem tcomp_pairs {K : PySem.W.Frag} {σ : St} {H : Hp} {Q : VK} {a : Addr} {ks : List Str} (e0 : σ[1]? = some (some (.ref a))) (ha : H a = some (.lst (ks.map V.str))) (hl : ks.length ≤ 8)
    (hq : ∀ (D : Addr) (H' : Hp) (ps : List Addr) (kvs : List (Key × V)), H D = none → Grow H H' → H' D = some (.lst (ps.map V.ref)) → Paired (fun p (kv : Key × V) => H' p = some (.tup [kV kv.1, kv.2])) ps kvs → kvs.map (·.1) = ks.map Sum.inr → (∀ kv ∈ kvs, ∃ l, kv.2 = .ref l ∧ H' l = some (.lst []) ∧ H l = none ∧ l ≠ D) → Q (.ref D) H') :
    tComp (iList K (tVar 1)) [] (fun _ H Q => Q true H) (tTup (tCons (tVar 0) (tCons (tLst tNil) tNil))) σ H Q := by
  refine ⟨_, e0, a, rfl, ⟨_, SqL.of ha⟩, fun D nD => comp_list (K := K) (a := a) (xs := ks.map V.str) (sub := []) (tt := fun _ H Q => Q true H) (te := tTup (tCons (tVar 0) (tCons (tLst tNil) tNil))) (Q := Q) (σ := σ)
    (fun i ys H2 => ∃ (ps : List Addr) (kvs : List (Key × V)), ys = ps.map V.ref ∧ Grow H H2 ∧ H2 D = some (.lst ys) ∧ Paired (fun p (kv : Key × V) => H2 p = some (.tup [kV kv.1, kv.2])) ps kvs ∧ kvs.map (·.1) = (ks.take i).map Sum.inr ∧ (∀ kv ∈ kvs, ∃ l, kv.2 = .ref l ∧ H2 l = some (.lst []) ∧ H l = none ∧ l ≠ D))
    ⟨[], [], rfl, Grow.new nD, upd_same, .nil, rfl, (fun _ h => nomatch h)⟩ (fun i ys H2 _ hh => ?_) (fun i x ys H2 hi hh => ?_) fun ys H2 hh => ?_⟩
  · obtain ⟨_, _, _, g, _⟩ := hh
    exact SqL.of (g _ _ ha)
  · obtain ⟨ps, kvs, rfl, g, hD, pk, km, kl⟩ := hh
    rw [List.getElem?_map] at hi
    cases ek : ks[i]? with
    | none => rw [ek] at hi; cases hi
    | some k =>
      rw [ek] at hi
      cases hi
      have hil := (List.getElem?_eq_some_iff.mp ek).1
      refine iteT ⟨_, rfl, Nat.zero_le _, fun l nl => ⟨by show 2 ≤ sizeLine; decide, fun t nt => ?_⟩⟩
      have lD : l ≠ D := fun z => by rw [z, hD] at nl; cases nl
      have tl : t ≠ l := fun z => by rw [z, upd_same] at nt; cases nt
      have nt2 : H2 t = none := by rw [upd_ne tl] at nt; exact nt
      have tD : t ≠ D := fun z => by rw [z, hD] at nt2; cases nt2
      have st : ∀ b o, H2 b = some o → b ≠ D → upd (upd (upd H2 l (.lst [])) t (.tup [.str k, .ref l])) D (.lst (ps.map V.ref ++ [V.ref t])) b = some o := fun b o e n => by
        rw [upd_ne n, upd_ne (ne_of_none e nt2), upd_ne (ne_of_none e nl)]; exact e
      have hps : ps.length ≤ 8 := by
        have h1 : ps.length = kvs.length := Paired.length pk
        have h2 := congrArg List.length km
        rw [List.length_map, List.length_map, List.length_take] at h2
        omega
      refine ⟨by rw [upd_ne (Ne.symm tD), upd_ne (Ne.symm lD)]; exact hD, by rw [List.length_map]; exact small1000 (by omega), ps ++ [t], kvs ++ [(Sum.inr k, .ref l)], by rw [List.map_append]; rfl, fun b o e => st b o (g _ _ e) (ne_of_none e nD), by rw [upd_same], ?_, ?_, fun kv hkv => ?_⟩
      · refine paired_snoc (Paired.mapP pk fun p kv e => st p _ e (ne_of e hD (by intro z; cases z))) ?_
        rw [upd_ne tD, upd_same]; rfl
      · rw [List.map_append, km, List.take_add_one, ek, List.map_append]; rfl
      · rcases List.mem_append.mp hkv with hkv | hkv
        · obtain ⟨l', e1, e2, e3, e4⟩ := kl kv hkv
          exact ⟨l', e1, st _ _ e2 e4, e3, e4⟩
        · rw [List.mem_singleton.mp hkv]
          refine ⟨l, rfl, by rw [upd_ne lD, upd_ne (Ne.symm tl), upd_same], ?_, lD⟩
          cases eh : H l with
          | none => rfl
          | some o => rw [g _ _ eh] at nl; cases nl
  · obtain ⟨ps, kvs, rfl, g, hD, pk, km, kl⟩ := hh
    rw [List.length_map, List.take_length] at km
    exact hq D H2 ps kvs nD g hD pk km kl
def spInit (C : Addr) : Sp := fun vs H Q _ => ∃ (x dx kl : Addr) (ks : List Str), vs = [.ref x, .ref kl] ∧ H x = some (.ins C dx []) ∧ H kl = some (.lst (ks.map V.str)) ∧ 1 ≤ ks.length ∧ ks.length ≤ 8 ∧ ks.Nodup ∧ (∀ k ∈ ks, hasB k letZ 8 = true ∧ k.length < sizeLine ∧ Nm k) ∧
  ∀ (a : BA) (F : Addr → Prop) (H' : Hp), (∀ b, F b → H b = none) → (∀ b o, H b = some o → b ≠ x → H' b = some o) → BkAt C H' x a F (Bk.new ks) → Q .non H'
theorem val_one {kvs : List (Key × V)} {ks : List Str} (km : kvs.map (·.1) = ks.map Sum.inr) {k : Str} (hk : k ∈ ks) (P : V → Prop) (h : ∀ kv ∈ kvs, P kv.2) : ∃ v, valV kvs (Sum.inr k) = some v ∧ P v := by
  have : (Sum.inr k : Key) ∈ kvs.map (·.1) := by rw [km]; exact List.mem_map.mpr ⟨k, hk, rfl⟩
  obtain ⟨kv, hkv, e⟩ := List.mem_map.mp this
  cases ev : valV kvs (Sum.inr k) with
  | none =>
    have h1 := valV_any (Sum.inr k : Key) kvs
    rw [ev] at h1
    have : (kvs.any fun kv => decide (kv.1 = (Sum.inr k : Key))) = true := List.any_eq_true.mpr ⟨kv, hkv, decide_eq_true e⟩
    rw [this] at h1; cases h1
  | some v =>
    refine ⟨v, rfl, ?_⟩
    unfold valV at ev
    obtain ⟨p, ep, e2⟩ := Option.map_eq_some_iff.mp ev
    rw [← e2]
    exact h p (List.mem_of_find?_eq_some ep)
section
variable {P : Program} {w : World} {K : PySem.W.Frag} {mg : Str → Option Value} {base : Heap}
theorem scInit : FnScope ["self", "keys"] ["self", "keys"] (defScope sInit) := ⟨rfl, rfl, rfl, by decide +kernel, rfl, by decide +kernel, by decide +kernel⟩
theorem ok_init {f C f1 : Addr} {fd : FuncData} (F : Fun K "__init__" "Book.__init__" sInit f fd) (N : Free mg) (T : BkC K C) {fd1 : FuncData} (CK : Cal P w K mg base "are_keys" 3 ["thing"] spAreKeys f1 fd1) : FnOk P w K mg base CX0 4 f fd ["self", "keys"] (spInit C) := by
  refine F.ok (k := 3) scInit (fun vs H Q E h => ?_) (fun cdv A outer s H vs Q E hr h => ?_)
  · obtain ⟨x, dx, kl, ks, rfl, _⟩ := h
    rfl
  · obtain ⟨x, dx, kl, ks, rfl, hx, hkl, k1, k8, nd, hk, q⟩ := h
    have hu := hu_of hr
    refine ⟨_, (pss_cons (ps_if (pt_not (pt_val (pe_call CK.ok (hr.mono (by decide)) rfl CK.nm CK.kp CK.bd .nil pass0 (pa_cons (pv 1) pa_nil)))) (pss_one ps_never) pss_nil)
      (pss_cons (ps_fld (pv 0) (pe_callTy call_list_of (by rfl) N.list PyProof.Rows.Boot.«list» (pa_cons (pv 1) pa_nil)) rfl)
      (pss_cons (ps_fld (pv 0) (pe_lst pa_nil) rfl)
      (pss_cons (ps_fld (pv 0) pe_dnewK rfl)
      (pss_cons (ps_fld (pv 0) (pe_lst pa_nil) rfl)
      (pss_one (ps_fld (pv 0) (pe_lst (pa_cons (pe_callTy (call_dictP rfl) (by rfl) N.dict PyProof.Rows.Boot.«dict» (pa_cons (pe_of (pec_compN rfl (pi_list (pv 1)) rfl rfl (by show ∀ p ∈ _, CapN [] p; decide) (by decide) rfl (by show ([Str.ofString "key"] : List Str).Nodup; decide) .nil (fun C fp s H => pts_nil) (fun C fp s H => (pe_tup (pa_cons (pv 0) (pa_cons (pe_lst pa_nil) pa_nil)))))) pa_nil)) pa_nil)) rfl))))))), ?_⟩
    refine ⟨_, rfl, kl, ks, rfl, hkl, k1, k8, nd, fun k h => ⟨(hk k h).1, (hk k h).2.1⟩, fun H0 g0 => ⟨_, rfl, iteF ?_⟩⟩
    have hx0 := g0 _ _ hx
    have hk0 := g0 _ _ hkl
    have kx : kl ≠ x := ne_of hkl hx (by intro z; cases z)
    refine ⟨_, rfl, kl, _, rfl, .inl (SqL.of hk0), fun n nn => ?_⟩
    obtain ⟨a0, a1, a2, a3⟩ := fld_put (fs' := putF "names" (.ref n) []) (o := .lst (ks.map V.str)) hx0 nn
    refine ⟨_, rfl, x, C, dx, _, rfl, a0, T.cl, T.n1, (by show 0 < 1000; decide), ?_⟩
    have knx : n ≠ x := fun z => by rw [z, hx0] at nn; cases nn
    have k1' := a3 _ _ hk0 kx
    generalize upd (upd H0 n (.lst (ks.map V.str))) x (.ins C dx (putF "names" (.ref n) [])) = H1 at a1 a2 a3 k1' ⊢
    refine ⟨Nat.zero_le _, fun f nf => ?_⟩
    obtain ⟨b0, b1, b2, b3⟩ := fld_put (fs' := putF "findings" (.ref f) (putF "names" (.ref n) [])) (o := .lst []) a1 nf
    refine ⟨_, rfl, x, C, dx, _, rfl, b0, T.cl, T.n2, (by show 1 < 1000; decide), ?_⟩
    have kfx : f ≠ x := fun z => by rw [z, a1] at nf; cases nf
    have k2' := b3 _ _ k1' kx
    have n2' := b3 _ _ a2 knx
    generalize upd (upd H1 f (.lst [])) x (.ins C dx (putF "findings" (.ref f) (putF "names" (.ref n) []))) = H2 at b1 b2 b3 k2' n2' ⊢
    intro w nw
    obtain ⟨c0, c1, c2, c3⟩ := fld_put (fs' := putF "withdrawals" (.ref w) (putF "findings" (.ref f) (putF "names" (.ref n) []))) (o := .dK []) b1 nw
    refine ⟨_, rfl, x, C, dx, _, rfl, c0, T.cl, T.n3, ?_, ?_⟩
    · have h1 := length_putF "findings" (V.ref f) (putF "names" (V.ref n) []); have h2 := length_putF "names" (V.ref n) []; simp only [List.length_nil] at h2; omega
    have kwx : w ≠ x := fun z => by rw [z, b1] at nw; cases nw
    have k3' := c3 _ _ k2' kx
    have n3' := c3 _ _ n2' knx
    have f3' := c3 _ _ b2 kfx
    generalize upd (upd H2 w (.dK [])) x (.ins C dx (putF "withdrawals" (.ref w) (putF "findings" (.ref f) (putF "names" (.ref n) [])))) = H3 at c1 c2 c3 k3' n3' f3' ⊢
    refine ⟨Nat.zero_le _, fun d nd' => ?_⟩
    obtain ⟨d0, d1, d2, d3⟩ := fld_put (fs' := putF "deeds" (.ref d) (putF "withdrawals" (.ref w) (putF "findings" (.ref f) (putF "names" (.ref n) [])))) (o := .lst []) c1 nd'
    refine ⟨_, rfl, x, C, dx, _, rfl, d0, T.cl, T.n4, ?_, ?_⟩
    · have h0 := length_putF "withdrawals" (V.ref w) (putF "findings" (V.ref f) (putF "names" (V.ref n) [])); have h1 := length_putF "findings" (V.ref f) (putF "names" (V.ref n) []); have h2 := length_putF "names" (V.ref n) []; simp only [List.length_nil] at h2; omega
    have kdx : d ≠ x := fun z => by rw [z, c1] at nd'; cases nd'
    have k4' := d3 _ _ k3' kx
    have n4' := d3 _ _ n3' knx
    have f4' := d3 _ _ f3' kfx
    have w4' := d3 _ _ c2 kwx
    have fr4 : ∀ b o, H b = some o → b ≠ x → upd (upd H3 d (.lst [])) x (.ins C dx (putF "deeds" (.ref d) (putF "withdrawals" (.ref w) (putF "findings" (.ref f) (putF "names" (.ref n) []))))) b = some o := fun b o e h => d3 _ _ (c3 _ _ (b3 _ _ (a3 _ _ (g0 _ _ e) h) h) h) h
    generalize upd (upd H3 d (.lst [])) x (.ins C dx (putF "deeds" (.ref d) (putF "withdrawals" (.ref w) (putF "findings" (.ref f) (putF "names" (.ref n) []))))) = H4 at d1 d2 d3 k4' n4' f4' w4' fr4 ⊢
    have fr4n : ∀ b, H4 b = none → b ≠ x → H b = none := fun b e h => by
      cases eh : H b with
      | none => rfl
      | some o => rw [fr4 b o eh h] at e; cases e
    dsimp only
    refine rd_fld (rd_lst (rd_cons (rd_cb (rd_cons ?_))))
    refine tcomp_pairs rfl k4' k8 ?_
    intro D H5 ps kvs nD g5 hD pk km kl'
    refine ⟨D, ps, kvs, rfl, hD, pk, ?_, ?_, fun t0 nt0 => ?_⟩
    · rw [km]; exact List.Pairwise.map Sum.inr (fun a b h z => h (Sum.inr.inj z)) nd
    · have := congrArg List.length km
      rw [List.length_map, List.length_map] at this
      omega
    refine ⟨by show 1 ≤ sizeLine; decide, fun t nt => ?_⟩
    have x5 := g5 _ _ d1
    have xt0 : x ≠ t0 := ne_of_none x5 nt0
    have tt0 : t ≠ t0 := fun z => by rw [z, upd_same] at nt; cases nt
    have nt5 : H5 t = none := by rw [upd_ne tt0] at nt; exact nt
    have xt : x ≠ t := ne_of_none x5 nt5
    refine ⟨_, rfl, x, C, dx, _, rfl, by rw [upd_ne xt, upd_ne xt0]; exact x5, T.cl, T.n5, ?_, ?_⟩
    · have h00 := length_putF "deeds" (V.ref d) (putF "withdrawals" (V.ref w) (putF "findings" (V.ref f) (putF "names" (V.ref n) []))); have h0 := length_putF "withdrawals" (V.ref w) (putF "findings" (V.ref f) (putF "names" (V.ref n) [])); have h1 := length_putF "findings" (V.ref f) (putF "names" (V.ref n) []); have h2 := length_putF "names" (V.ref n) []; simp only [List.length_nil] at h2; omega
    have st6 : ∀ b o, H5 b = some o → b ≠ x → upd (upd (upd H5 t0 (.dK kvs)) t (.lst [V.ref t0])) x (.ins C dx (putF "tables" (.ref t) (putF "deeds" (.ref d) (putF "withdrawals" (.ref w) (putF "findings" (.ref f) (putF "names" (.ref n) [])))))) b = some o := fun b o e h => by
      rw [upd_ne h, upd_ne (ne_of_none e nt5), upd_ne (ne_of_none e nt0)]; exact e
    have f5 := g5 _ _ f4'
    have n5 := g5 _ _ n4'
    have w5 := g5 _ _ w4'
    have d5 := g5 _ _ d2
    have bn : ∀ {b o}, H5 b = some o → b ≠ t := fun e => ne_of_none e nt5
    have none4 : ∀ b, H4 b = none → H b = none := fun b e => fr4n b e fun z => by rw [z, d1] at e; cases e
    have none5 : ∀ b, H5 b = none → H b = none := fun b e => none4 b (by
      cases e4 : H4 b with
      | none => rfl
      | some o => rw [g5 b o e4] at e; cases e)
    have newn : H n = none := by
      cases e : H n with
      | none => rfl
      | some o => rw [g0 n o e] at nn; cases nn
    have newf : H f = none := by
      cases e : H f with
      | none => rfl
      | some o => rw [a3 f o (g0 f o e) kfx] at nf; cases nf
    have neww : H w = none := by
      cases e : H w with
      | none => rfl
      | some o => rw [b3 w o (a3 w o (g0 w o e) kwx) kwx] at nw; cases nw
    have newd : H d = none := by
      cases e : H d with
      | none => rfl
      | some o => rw [c3 d o (b3 d o (a3 d o (g0 d o e) kdx) kdx) kdx] at nd'; cases nd'
    have fn : n ≠ f := ne_of_none a2 nf
    have dn : n ≠ d := ne_of_none n3' nd'
    have df : f ≠ d := ne_of_none f3' nd'
    have e6 : putF "tables" (V.ref t) (putF "deeds" (.ref d) (putF "withdrawals" (.ref w) (putF "findings" (.ref f) (putF "names" (.ref n) [])))) = bflds ⟨n, f, w, d, t⟩ := bf_put ⟨n, f, w, d, t⟩
    have t06 : upd (upd (upd H5 t0 (.dK kvs)) t (.lst [V.ref t0])) x (.ins C dx (putF "tables" (.ref t) (putF "deeds" (.ref d) (putF "withdrawals" (.ref w) (putF "findings" (.ref f) (putF "names" (.ref n) [])))))) t0 = some (.dK kvs) := by rw [upd_ne (Ne.symm xt0), upd_ne (Ne.symm tt0), upd_same]
    refine q ⟨n, f, w, d, t⟩ (fun b => H b = none) _ (fun b z => z) (fun b o e h => st6 b o (g5 _ _ (fr4 b o e h)) h) ⟨⟨dx, by rw [upd_same, e6]⟩, st6 _ _ n5 knx, ⟨[], st6 _ _ f5 kfx, .nil⟩, st6 _ _ w5 kwx, ⟨[], st6 _ _ d5 kdx, .nil⟩, ⟨[t0], ?_, rfl, fun i y hy => ?_⟩, ⟨newn, newf, neww, newd, none5 t nt5⟩, fun z => ?_, df, bn f5, bn d5, Bk.new_ok nd k1 k8 fun k h => (hk k h).2.2⟩
    · show upd _ x _ t = _
      rw [upd_ne (Ne.symm xt), upd_same]; rfl
    · have hi : i = 0 := by
        have := (List.getElem?_eq_some_iff.mp hy).1
        simp at this
        exact this
      subst hi
      cases (show some t0 = some y from hy)
      refine ⟨none5 t0 nt0, fun z => ?_, kvs, t06, ?_, fun k hkk => ?_⟩
      · rcases z with z | z | z | z
        · exact (ne_of_none f5 nt0) z.symm
        · exact (ne_of_none w5 nt0) z.symm
        · exact (ne_of_none d5 nt0) z.symm
        · exact tt0 z.symm
      · have := congrArg List.length km
        rw [List.length_map, List.length_map] at this
        omega
      · obtain ⟨v, ev, l, rfl, e7, e8, e9⟩ := val_one km hkk (fun v => ∃ l, v = .ref l ∧ H5 l = some (.lst []) ∧ H4 l = none ∧ l ≠ D) kl'
        have lx : l ≠ x := ne_of e7 x5 (by intro z; cases z)
        refine ⟨l, [], ev, none4 l e8, fun z => ?_, rowsL_nil (st6 _ _ e7 lx), Strip.tidy_nil, (fun _ h => nomatch h), fun d' => rfl⟩
        rcases z with z | z | z | z
        · exact (ne_of_none f4' e8) z.symm
        · exact (ne_of_none w4' e8) z.symm
        · exact (ne_of_none d2 e8) z.symm
        · exact (bn e7) z
    · rcases z with z | z | z | z
      · exact fn z
      · exact (ne_of n5 w5 (by intro z; cases z)) z
      · exact dn z
      · exact (bn n5) z
end
end Mine
namespace L2
open PySem PySem.Spec PyProof.Rows
structure PR where
  p : Addr
  a : BA
  F : Addr → Prop
  s : SA
  B : Bk
def PR.In (r : PR) (b : Addr) : Prop := r.F b ∨ r.s.At b
structure Duo (C L : Addr) (O : Addr → Prop) (Hk : Hp) (n : Nat) (R : Nat → PR) (H : Hp) : Prop where
  pr : ∀ i, i < n → Pair C L H (R i).p (R i).a (R i).F (R i).s (R i).B
  di : ∀ i j, i < n → j < n → i ≠ j → ∀ b, (R i).In b → ¬ (R j).In b
  nw : ∀ i, i < n → ∀ b, (R i).In b → ¬ O b
  ok : ∀ b o, O b → Hk b = some o → H b = some o
  od : ∀ b, O b → Hk b ≠ none ∧ b ≠ L
theorem BkAt.kinds {C : Addr} {H : Hp} {p : Addr} {a : BA} {F : Addr → Prop} {B : Bk} (h : BkAt C H p a F B) {b : Addr} (m : a.M b) : (∃ xs, H b = some (.lst xs)) ∨ ∃ xs, H b = some (.dK xs) := by
  obtain ⟨ps, e1, _⟩ := h.hf
  obtain ⟨qs, e2, _⟩ := h.hd
  obtain ⟨ts, e3, _, _⟩ := h.ht
  rcases m with m | m | m | m
  · exact .inl ⟨_, by rw [m]; exact e1⟩
  · exact .inr ⟨_, by rw [m]; exact h.hw⟩
  · exact .inl ⟨_, by rw [m]; exact e2⟩
  · exact .inl ⟨_, by rw [m]; exact e3⟩
def upR (R : Nat → PR) (w : Nat) (F' : Addr → Prop) (B' : Bk) (i : Nat) : PR := if i = w then ⟨(R w).p, (R w).a, F', (R w).s, B'⟩ else R i
def moR (R : Nat → PR) (n : Nat) (r : PR) (i : Nat) : PR := if i = n then r else R i
theorem Duo.more {C L : Addr} {O : Addr → Prop} {Hk H : Hp} {n : Nat} {R : Nat → PR} (D : Duo C L O Hk n R H) {r : PR} (h : Pair C L H r.p r.a r.F r.s r.B) (hn : ∀ b, r.In b → ¬ O b ∧ ∀ i, i < n → ¬ (R i).In b) : Duo C L O Hk (n + 1) (moR R n r) H := by
  have e1 : moR R n r n = r := if_pos rfl
  have e2 : ∀ i, i < n + 1 → i ≠ n → moR R n r i = R i ∧ i < n := fun i hi h => ⟨if_neg h, by omega⟩
  refine ⟨fun i hi => ?_, fun i j hi hj hij b h1 h2 => ?_, fun i hi b hb ob => ?_, D.ok, D.od⟩
  · by_cases z : i = n
    · rw [z, e1]; exact h
    · rw [(e2 i hi z).1]; exact D.pr i (e2 i hi z).2
  · by_cases z : i = n
    · rw [z, e1] at h1
      have zj : j ≠ n := fun w => hij (by rw [z, w])
      rw [(e2 j hj zj).1] at h2
      exact (hn b h1).2 j (e2 j hj zj).2 h2
    · rw [(e2 i hi z).1] at h1
      by_cases zj : j = n
      · rw [zj, e1] at h2
        exact (hn b h2).2 i (e2 i hi z).2 h1
      · rw [(e2 j hj zj).1] at h2
        exact D.di i j (e2 i hi z).2 (e2 j hj zj).2 hij b h1 h2
  · by_cases z : i = n
    · rw [z, e1] at hb; exact (hn b hb).1 ob
    · rw [(e2 i hi z).1] at hb; exact D.nw i (e2 i hi z).2 b hb ob
abbrev Gw (H H' : Hp) : Prop := ∀ b o, H b = some o → H' b = some o
end L2
namespace Mine
open PySem L2
abbrev sLaw : Stmt := top 45
def datF (r : Fnd) (v : V) : PySem.W.Dat := .tuple [.str r.1, .int r.2.1, .int r.2.2.1, .int r.2.2.2.1, .int r.2.2.2.2, datM v]
theorem datF_at {H : Hp} {q : Addr} {r : Fnd} {v : V} (e : H q = some (.tup (tupF r ++ [v]))) (hv : MarkV v) : DatV H (.ref q) (datF r v) :=
  .tup e (.cons (.str _) (.cons (.int _) (.cons (.int _) (.cons (.int _) (.cons (.int _) (.cons (datV_mark hv) .nil))))))
theorem datF_ok {r : Fnd} {v : V} (h : Nm r.1) (hv : MarkV v) : PySem.W.kqdOk 9 (datF r v) = true := by
  show ([PySem.W.Dat.str r.1, .int r.2.1, .int r.2.2.1, .int r.2.2.2.1, .int r.2.2.2.2, datM v].all (PySem.W.kqdOk 8)) = true
  rw [List.all_cons, List.all_cons, List.all_cons, List.all_cons, List.all_cons, List.all_cons, datM_ok 8 hv, show PySem.W.kqdOk 8 (.str r.1) = true from h]
  rfl
def datD (d : Deed) : PySem.W.Dat := .tuple [.str d.1, .int d.2]
theorem datD_at {H : Hp} {q : Addr} {d : Deed} (e : H q = some (.tup (tupD d))) : DatV H (.ref q) (datD d) := .tup e (.cons (.str _) (.cons (.int _) .nil))
theorem gone_mark {B : Bk} (O : B.Ok) (n : Nat) : MarkV ((valV B.gs (Sum.inl (n : Int))).getD .non) := by
  rcases O.gone n with ⟨e, _⟩ | ⟨t, e, _⟩
  · rw [e]; exact trivial
  · rw [e]; exact trivial
theorem sqL_keep {K : PySem.W.Frag} {H H' : Hp} {a L : Addr} {xs : List V} {pL : Array Value} (h : SqL K H a xs) (hL : H L = some (.tbl pL)) (g : ∀ b o, H b = some o → b ≠ L → H' b = some o) : SqL K H' a xs := by
  rcases h with (h | ⟨o, h⟩) | h
  · exact .inl (.inl (g _ _ h (ne_of h hL (by intro z; cases z))))
  · exact .inl (.inr ⟨o, g _ _ h (ne_of h hL (by intro z; cases z))⟩)
  · exact .inr h
theorem span_of {i : Int} (h0 : 0 ≤ i) (h1 : i < 4) : ∃ s : Int, (s = 40 ∨ s = 400) ∧ atI [V.int 40, V.int 40, V.int 40, V.int 400] i = some (V.int s) := by
  rcases (show i = 0 ∨ i = 1 ∨ i = 2 ∨ i = 3 by omega) with rfl | rfl | rfl | rfl
  · exact ⟨40, .inl rfl, rfl⟩
  · exact ⟨40, .inl rfl, rfl⟩
  · exact ⟨40, .inl rfl, rfl⟩
  · exact ⟨400, .inr rfl, rfl⟩
theorem cut_len {xs : List V} : (cutV xs (some 2) (some 59)).length ≤ 57 := by
  unfold cutV
  rw [List.length_take, List.length_drop]
  have e1 : HT.sIx xs.length 0 (some 2) = min 2 xs.length := rfl
  have e2 : HT.sIx xs.length xs.length (some 59) = min 59 xs.length := rfl
  rw [e1, e2]
  omega
theorem cut_mem {ns : List Int} {lo hi : Option Int} {z : V} (h : z ∈ cutV (ns.map V.int) lo hi) : ∃ c : Int, z = .int c := by
  unfold cutV at h
  obtain ⟨c, _, rfl⟩ := List.mem_map.mp (List.mem_of_mem_drop (List.mem_of_mem_take h))
  exact ⟨c, rfl⟩
theorem Pair_new {C L : Addr} {H4 H5 H8 : Hp} {x : Addr} {a : BA} {F : Addr → Prop} {s : SA} {ks : List Str} {pL : Array Value} (fF : ∀ b, F b → H4 b = none) (g5 : Gw H4 H5) (bk : BkAt C H5 x a F (Bk.new ks)) (e4k : H4 s.k ≠ none)
    (g8 : Gw H5 H8) (st : StAt H8 s (Bk.new ks)) (nS : ∀ b, s.At b → b ≠ s.k → H5 b = none) (hL : H4 L = some (.tbl pL)) : Pair C L H8 x a (fun b => F b ∧ H5 b ≠ none) s (Bk.new ks) := by
  refine ⟨bk.dom.keep ⟨fun b o _ e => g8 b o e, fun b xs e => g8 b _ e, fun b c dx fs e => g8 b _ e⟩, st, fun b f => ⟨still g8 f.2, fun z => ?_⟩, fun b sa f => ?_⟩
  · have := fF b f.1
    rw [z, hL] at this
    cases this
  · by_cases z : b = s.k
    · exact e4k (by rw [← z]; exact fF b f.1)
    · exact f.2 (nS b sa z)
theorem TabsN.base {A Z H : Hp} {x : Addr} {ks : List Str} {g : Str → Int → Option Int} (h : TabsN A H x ks g) (hm : ∀ b, H b ≠ none → A b = none → Z b = none) : TabsN Z H x ks g := by
  obtain ⟨kvs, e, n, r⟩ := h
  refine ⟨kvs, e, hm _ (by rw [e]; intro z; cases z) n, fun k hk => ?_⟩
  obtain ⟨ra, rs, e1, n1, e2, td, i4, dy⟩ := r k hk
  have : H ra ≠ none := by
    obtain ⟨ps, e3, _⟩ := e2
    rw [e3]; intro z; cases z
  exact ⟨ra, rs, e1, hm _ this n1, e2, td, i4, dy⟩
theorem atI_two (xs : List V) (u v : V) : atI (xs ++ [u] ++ [v]) (-2) = some u := by
  have hl : (xs ++ [u] ++ [v]).length = xs.length + 2 := by simp
  have e : ixN (xs ++ [u] ++ [v]).length (-2) = some xs.length := by
    unfold ixN
    rw [hl, if_neg (by decide), if_pos (by omega)]
    congr 1
    omega
  unfold atI
  rw [e]
  simp
theorem dats_deed {H : Hp} : ∀ {qs : List Addr} {ds : List Deed}, DeedP H qs ds → DatVs H (qs.map V.ref) (ds.map datD)
  | [], [], _ => .nil
  | q :: qs, d :: ds, h => by
    cases h with
    | cons e r => exact .cons (datD_at e) (dats_deed r)
theorem datDs_ok {ds : List Deed} (h : ∀ d ∈ ds, Nm d.1) : PySem.W.kqdOk 9 (.list (ds.map datD)) = true := by
  show (ds.map datD).all (PySem.W.kqdOk 8) = true
  refine List.all_eq_true.mpr fun d hd => ?_
  obtain ⟨x, hx, rfl⟩ := List.mem_map.mp hd
  show ([PySem.W.Dat.str x.1, .int x.2].all (PySem.W.kqdOk 7)) = true
  rw [List.all_cons, List.all_cons, show PySem.W.kqdOk 7 (.str x.1) = true from h x hx]
  rfl
theorem deedP_snoc {H : Hp} : ∀ {qs : List Addr} {ds : List Deed} {q : Addr} {d : Deed}, DeedP H qs ds → H q = some (.tup (tupD d)) → DeedP H (qs ++ [q]) (ds ++ [d])
  | [], [], _, _, _, e => .cons e .nil
  | q :: qs, d :: ds, _, _, h, e => by
    cases h with
    | cons e1 r => exact .cons e1 (deedP_snoc r e)
theorem compB_of {lo : Int} {n : Nat} {sub : List Nat} {tt : TT} {te : TE} {σ : St} {Q : VK} {H : Hp} (h : ∀ D, H D = none → ∃ Pv : Nat → List V → Hp → Prop, Pv 0 [] (upd H D (.lst [])) ∧
    (∀ i ys H2, i < n → Pv i ys H2 → tt (some (.int (lo + i)) :: subσ sub σ) H2 fun b H4 => if b = true then te (some (.int (lo + i)) :: subσ sub σ) H4 fun y H5 => H5 D = some (.lst ys) ∧ ys.length < sizeLine ∧ Pv (i + 1) (ys ++ [y]) (upd H5 D (.lst (ys ++ [y]))) else Pv (i + 1) ys H4) ∧
    ∀ ys H2, Pv n ys H2 → Q (.ref D) H2) : CompB (Itr lo n) sub tt te σ Q H := fun D nD => by
  obtain ⟨Pv, h0, hs, hd⟩ := h D nD
  exact comp_range (lo := lo) (n := n) (sub := sub) (tt := tt) (te := te) (Q := Q) (σ := σ) Pv h0 hs hd
theorem Pair.own {C L : Addr} {H : Hp} {p : Addr} {a : BA} {F : Addr → Prop} {s : SA} {B : Bk} (h : Pair C L H p a F s B) {k : Addr} {xs ys : List V} (e : H k = some (.lst xs)) (nF : ¬ F k) (nS : ¬ s.At k) : Pair C L (upd H k (.lst ys)) p a F s B := by
  have kp : ∀ b o, H b = some o → b ≠ k → upd H k (.lst ys) b = some o := fun b o e nb => by rw [upd_ne nb]; exact e
  refine ⟨h.bk.keep ⟨fun b o fb e1 => kp b o e1 fun z => nF (z ▸ fb), fun b xs e1 => kp b _ e1 (ne_of e1 e (by intro z; cases z)), fun b c dx fs e1 => kp b _ e1 (ne_of e1 e (by intro z; cases z))⟩, h.st.keep (fun b o sb e1 => kp b o e1 fun z => nS (z ▸ sb)) fun b xs e1 => kp b _ e1 (ne_of e1 e (by intro z; cases z)), fun b f => ⟨?_, (h.fd b f).2⟩, h.sf⟩
  rw [upd_ne (show b ≠ k from fun z => nF (z ▸ f))]
  exact (h.fd b f).1
def spLaw (K : PySem.W.Frag) (C L : Addr) : Sp := fun vs H Q _ => ∃ (a : Addr) (ns : List Int), vs = [.ref a] ∧ Lm L H ∧ SqL K H a (ns.map V.int) ∧ ns.length ≤ 63 ∧ ∀ H', Q (.bl true) H'
section
variable {P : Program} {w : World} {K : PySem.W.Frag} {mg : Str → Option Value} {base : Heap}
theorem scLaw : FnScope ["_law_script", "_law_keys_here", "_law_book", "_law_state_here", "_law_span", "_law_kept", "_law_cell_here", "_law_turn", "_law_key", "_law_number", "_law_row"] ["_law_script"] (defScope sLaw) := ⟨rfl, rfl, rfl, by decide +kernel, rfl, by decide +kernel, by decide +kernel⟩
theorem ok_law {f f1 f2 f3 f4 f5 f6 f7 f8 f9 f10 C L : Addr} {fd : FuncData} (F : Fun K "law" "law" sLaw f fd) (N : Free mg) {fd1 : FuncData} (CE : Cal P w K mg base "_law_cell" 1 ["_law_script", "_law_k"] (spCell K) f1 fd1) {fd2 : FuncData} (CK : Cal P w K mg base "_law_keys" 3 ["_law_cell_here"] spKeys f2 fd2) {fd3 : FuncData} (CA : Cal P w K mg base "_law_state" 1 ["_law_keys_here"] spState f3 fd3) {fd4 : FuncData} (CT : Cal P w K mg base "_law_tables" 4 ["_law_book", "_law_keys_here"] (spTabs C) f4 fd4) {fd5 : FuncData} (CO : Cal P w K mg base "_law_done" 7 ["_law_book", "_law_state_here", "_law_cell_here", "_law_span"] (spDone C L) f5 fd5) {fd6 : FuncData} (CR : Cal P w K mg base "_law_step_right" 2 ["_law_state_here", "_law_before", "_law_behind"] spStep f6 fd6) (MK : Mk K C f7) {fd7 : FuncData} (GI : FnOk P w K mg base CX0 4 f7 fd7 ["self", "keys"] (spInit C)) (bI : Binds K fd7 ["self", "keys"] []) (mC : mg "Book" = some (.ref C)) {fd8 : FuncData} (T2 : MC P w K mg base C "table" 3 ["self", "key", "turn"] [] [] (spTable C) f8 fd8) {fd9 : FuncData} (MO : MC P w K mg base C "found" 3 ["self", "number"] [] [] (spFound C) f9 fd9) {fd10 : FuncData} (MT : MC P w K mg base C "deed_at" 2 ["self", "turn"] [] [] (spDeedAt C) f10 fd10) : FnOk P w K mg base CX0 8 f fd ["_law_script"] (spLaw K C L) := by
  refine F.ok (k := 7) scLaw (fun vs H Q E h => ?_) (fun cdv A outer s H vs Q E hr h => ?_)
  · obtain ⟨sa, ns, rfl, _⟩ := h
    rfl
  · obtain ⟨sa, ns, rfl, LL, hS, h63, q⟩ := h
    have hu := hu_of hr
    refine ⟨_, (pss_cons (ps_set (i := 1) scLaw.nd rfl (Or.inl rfl) (pe_call CK.ok (hr.mono (by decide)) rfl CK.nm CK.kp CK.bd .nil pass0 (pa_cons (pe_call CE.ok (hr.mono (by decide)) rfl CE.nm CE.kp CE.bd .nil pass0 (pa_cons (pv 0) (pa_cons pe_int pa_nil))) pa_nil)))
      (pss_cons (ps_set (i := 2) scLaw.nd rfl (Or.inr rfl) (pe_make MK GI (hr.mono (by decide)) rfl mC bI .nil pass0 (pa_cons (pe_callTy call_list_of (by rfl) N.list PyProof.Rows.Boot.«list» (pa_cons (pv 1) pa_nil)) pa_nil)))
      (pss_cons (ps_set (i := 3) scLaw.nd rfl (Or.inl rfl) (pe_call CA.ok (hr.mono (by decide)) rfl CA.nm CA.kp CA.bd .nil pass0 (pa_cons (pv 1) pa_nil)))
      (pss_cons (ps_set (i := 4) scLaw.nd rfl (Or.inl rfl) (pe_ix ix_list (pe_lst (pa_cons pe_int (pa_cons pe_int (pa_cons pe_int (pa_cons pe_int pa_nil))))) (pe_op op_mod (pe_op op_fdiv (pe_call CE.ok (hr.mono (by decide)) rfl CE.nm CE.kp CE.bd .nil pass0 (pa_cons (pv 0) (pa_cons pe_int pa_nil))) pe_int) pe_int) (fun _ _ => rfl)))
      (pss_cons (ps_set (i := 5) scLaw.nd rfl (Or.inl rfl) (pe_lst (pa_cons (pe_call CT.ok (hr.mono (by decide)) rfl CT.nm CT.kp CT.bd .nil pass0 (pa_cons (pv 2) (pa_cons (pv 1) pa_nil))) pa_nil)))
      (pss_cons (ps_for PassesOwn.never rfl (pi_list (pe_op op_cat (pe_slice sl_list (pv 0) (po_some pe_int) (po_some pe_int)) (pe_lst (pa_cons pe_int (pa_cons pe_int (pa_cons pe_int pa_nil)))))) (pg_name (i := 6) scLaw.nd rfl (Or.inl rfl))
      (pss_cons (ps_if (pt_not (pt_val (pe_call CO.ok (hr.mono (by decide)) rfl CO.nm CO.kp CO.bd .nil pass0 (pa_cons (pv 2) (pa_cons (pv 3) (pa_cons (pv 6) (pa_cons (pv 4) pa_nil))))))) (pss_one (ps_ret pe_bl)) pss_nil)
      (pss_cons (ps_expr (pe_bm PySem.F.plainAttrs_list PySem.F.slot_list_append PySem.F.type_list_append mt_append (pv 5) (pa_cons (pe_call CT.ok (hr.mono (by decide)) rfl CT.nm CT.kp CT.bd .nil pass0 (pa_cons (pv 2) (pa_cons (pv 1) pa_nil))) pa_nil)))
      (pss_one (ps_if (pt_not (pt_val (pe_call CR.ok (hr.mono (by decide)) rfl CR.nm CR.kp CR.bd .nil pass0 (pa_cons (pv 3) (pa_cons (pe_ix ix_list (pv 5) (pe_un un_neg pe_int) (fun _ _ => rfl)) (pa_cons (pe_ix ix_list (pv 5) (pe_un un_neg pe_int) (fun _ _ => rfl)) pa_nil)))))) (pss_one (ps_ret pe_bl)) pss_nil)))))
      (pss_cons (ps_for PassesOwn.never rfl (pi_range1 rfl N.range (pa_cons (pe_callB call_len_seq (by rfl) N.len PySem.boot_len (pa_cons (pv 5) pa_nil)) pa_nil)) (pg_name (i := 7) scLaw.nd rfl (Or.inl rfl))
      (pss_one (ps_for PassesOwn.never rfl (pi_list (pv 1)) (pg_name (i := 8) scLaw.nd rfl (Or.inl rfl))
      (pss_one (ps_if (pt_cmpR (op_neRows hr.units) (pe_meth (pv 2) T2.cl T2.mt T2.ok (hr.mono (by decide)) T2.bd T2.dv pass0 (pa_cons (pv 8) (pa_cons (pv 7) pa_nil))) (pe_dget hu (pe_ix ix_list (pv 5) (pv 7) (fun _ _ => rfl)) (pv 8) (fun _ _ => rfl)) (nomark _)) (pss_one (ps_ret pe_bl)) pss_nil)))))
      (pss_cons (ps_for PassesOwn.never rfl (pi_enum rfl N.enumerate (pa_cons (pe_dget hu (pv 3) pe_str (fun _ _ => rfl)) pa_nil)) (pg_tup rfl (pgs_cons (pg_name (i := 9) scLaw.nd rfl (Or.inl rfl)) (pgs_cons (pg_name (i := 10) scLaw.nd rfl (Or.inl rfl)) pgs_nil)))
      (pss_one (ps_if (pt_cmpR (op_neDat hr.units) (pe_meth (pv 2) MO.cl MO.mt MO.ok (hr.mono (by decide)) MO.bd MO.dv pass0 (pa_cons (pv 9) pa_nil)) (pe_op op_catT (pv 10) (pe_tup (pa_cons (pe_dget1 hu (pe_dget hu (pv 3) pe_str (fun _ _ => rfl)) (pv 9) ⟨rfl, rfl, rfl, rfl⟩) pa_nil))) (nomark _)) (pss_one (ps_ret pe_bl)) pss_nil)))
      (pss_one (ps_ret (pe_cmpR (op_eqDat hr.units) (pe_of (pec_compN rfl (pi_range2 rfl N.range (pa_cons pe_int (pa_cons (pe_callB call_len_seq (by rfl) N.len PySem.boot_len (pa_cons (pv 5) pa_nil)) pa_nil))) rfl rfl (by show ∀ p ∈ _, CapN [Str.ofString "_law_book"] p; decide) (by decide) rfl (by show ([Str.ofString "_law_turn", Str.ofString "_law_book"] : List Str).Nodup; decide) (.cons (i := 2) rfl (.inr (.inl rfl)) (by show (some NameKind.cell) ≠ some NameKind.local; decide) (.inl rfl) rfl .nil) (fun C fp s H => pts_nil) (fun C fp s H => (pe_meth (pv 1) MT.cl MT.mt MT.ok (hr.mono (by decide)) MT.bd MT.dv pass0 (pa_cons (pv 0) pa_nil))))) (pe_dget hu (pv 3) pe_str (fun _ _ => rfl)) (nomark _)))))))))))), ?_⟩
    obtain ⟨pL, hL⟩ := LL.tbl
    refine rd_seq (rd_asg ⟨_, rfl, sa, ns, _, rfl, hS, by decide, fun n => ⟨n, rfl, fun kl ks H3 nk g3 ek k1 k8 nd hok => ?_⟩⟩)
    dsimp only [gName]
    refine rd_seq (rd_asg ?_)
    refine ⟨_, rfl, kl, _, rfl, .inl (SqL.of ek), fun hd nh => ?_⟩
    have g4 : Grow H3 (upd H3 hd (.lst (ks.map V.str))) := Grow.new nh
    have eh : upd H3 hd (.lst (ks.map V.str)) hd = some (.lst (ks.map V.str)) := upd_same
    generalize upd H3 hd (.lst (ks.map V.str)) = H4 at g4 eh
    have g04 := g3.trans g4
    refine fun x dx nx ndx hne => ?_
    refine ⟨x, dx, hd, ks, rfl, upd_same, (by rw [upd_ne (ne_of_none eh nx), upd_ne (ne_of_none eh ndx)]; exact eh), k1, k8, nd, (fun k hk => ⟨(hok k hk).has, (hok k hk).len, (hok k hk).nm⟩), fun a F H5 fF gg bk => ⟨rfl, ?_⟩⟩
    have g5 : Grow H4 H5 := fun b o e => gg b o (by rw [upd_ne (ne_of_none e nx), upd_ne (ne_of_none e ndx)]; exact e) (ne_of_none e nx)
    have fF' : ∀ b, F b → H4 b = none := fun b f => (of_upd_none (of_upd_none (fF b f)).2).2
    have g05 := g04.trans g5
    dsimp only [gName]
    have e5k := g5 _ _ (g4 _ _ ek)
    refine rd_seq (rd_asg ⟨_, rfl, kl, ks, rfl, e5k, fun s H8 es g8 nS st => ?_⟩)
    subst es
    have g08 := g05.trans g8
    have P8 := Pair_new (C := C) (L := L) fF' g5 bk (by rw [g4 _ _ ek]; intro z; cases z) g8 st nS (g04 _ _ hL)
    have newr : ∀ b, ((F b ∧ H5 b ≠ none) ∨ s.At b) → H b = none := fun b hb => by
      rcases hb with hb | hb
      · exact g04.free (fF' b hb.1)
      · by_cases z : b = s.k
        · rw [z]; exact nk
        · exact g05.free (nS b hb z)
    have L8 : Lm L H8 := lam_keep LL fun b o e _ _ => g08 b o e
    have D0 : Duo C L (fun b => H b ≠ none ∧ b ≠ L) H 0 (fun _ => ⟨x, a, F, s, Bk.new ks⟩) H8 := ⟨(fun i hi => nomatch hi), (fun i j hi => nomatch hi), (fun i hi => nomatch hi), fun b o ob e => g08 b o e, fun b ob => ob⟩
    have D8 := D0.more (r := ⟨x, a, fun b => F b ∧ H5 b ≠ none, s, Bk.new ks⟩) P8 fun b hb => ⟨fun z => z.1 (newr b hb), fun i hi => nomatch hi⟩
    have hR8 : (moR (fun _ => (⟨x, a, F, s, Bk.new ks⟩ : PR)) 0 ⟨x, a, fun b => F b ∧ H5 b ≠ none, s, Bk.new ks⟩ 0) = ⟨x, a, fun b => F b ∧ H5 b ≠ none, s, Bk.new ks⟩ := rfl
    generalize moR (fun _ => (⟨x, a, F, s, Bk.new ks⟩ : PR)) 0 ⟨x, a, fun b => F b ∧ H5 b ≠ none, s, Bk.new ks⟩ = R8 at D8 hR8
    have hp8 : (R8 0).p = x ∧ (R8 0).s = s ∧ (R8 0).B.ds = [] ∧ (R8 0).B.ks = ks := by rw [hR8]; exact ⟨rfl, rfl, rfl, rfl⟩
    clear hR8
    dsimp only [gName]
    have hS8 := sqL_keep hS hL fun b o e _ => g08 b o e
    refine rd_seq (rd_asg ⟨by show 4 ≤ sizeLine; decide, fun l3 n3 => ?_⟩)
    have g9 : Grow H8 (upd H8 l3 (.lst [.int 40, .int 40, .int 40, .int 400])) := Grow.new n3
    have hS9 := sqL_keep hS hL fun b o e _ => (g08.trans g9) b o e
    refine ⟨_, rfl, sa, ns, 0, rfl, hS9, by decide, fun n => ⟨_, _, rfl, rfl, ?_, _, _, rfl, rfl, (by show (0 : Int) < 4; decide), ?_⟩⟩
    · exact ⟨by decide, by omega⟩
    obtain ⟨sp, hsp, esp⟩ := span_of (Int.emod_nonneg (n / 4) (show (4 : Int) ≠ 0 by decide)) (Int.emod_lt_of_pos (n / 4) (show (0 : Int) < 4 by decide))
    refine ⟨l3, _, _, V.int sp, rfl, rfl, SqL.of upd_same, esp, ?_⟩
    have s0 : 0 < sp := by omega
    have s1 : sp ≤ 400 := by omega
    dsimp only [gName]
    generalize upd H8 l3 (.lst [.int 40, .int 40, .int 40, .int 400]) = H9 at g9 hS9
    have P9 := P8.grow g9
    have hL9 := g9 _ _ (g08 _ _ hL)
    have L9 : Lm L H9 := lam_keep L8 fun b o e _ _ => g9 b o e
    refine rd_seq (rd_asg ⟨_, rfl, _, rfl, x, a, _, Bk.new ks, s.k, rfl, P9.bk, P9.st.hk, fun t0 H10 g10 T10 => ⟨by show 1 ≤ sizeLine; decide, fun kp nkp => ?_⟩⟩)
    have nkp9 : H9 kp = none := g10.free nkp
    have Tz : TabsN (upd H9 kp (.lst [])) H10 t0 ks (fun k d => (Bk.new ks).spk k 0 d) := T10.base fun b hb hn => by
      rw [upd_ne fun z => hb (by rw [z]; exact nkp)]
      exact hn
    clear T10
    have g11 : Grow H10 (upd H10 kp (.lst [V.ref t0])) := Grow.new nkp
    have e11 : upd H10 kp (.lst [V.ref t0]) kp = some (.lst [V.ref t0]) := upd_same
    generalize upd H10 kp (.lst [V.ref t0]) = H11 at g11 e11
    have T11 := Tz.grow g11
    clear Tz
    have g911 := g10.trans g11
    have P11 := P9.grow g911
    have hS11 := sqL_keep hS9 hL9 fun b o e _ => g911 b o e
    dsimp only [gName]
    have ndz : ∀ b, upd H9 kp (.lst []) b = none → b ≠ kp ∧ H9 b = none := fun b hb => of_upd_none hb
    have nM9 : ∀ b, H9 b = none → b ≠ L ∧ ¬ a.M b ∧ ¬ s.At b := fun b hb => by
      refine ⟨fun z => ?_, fun z => ?_, fun z => ?_⟩
      · rw [z, hL9] at hb; cases hb
      · rcases P9.bk.kinds z with ⟨w, e⟩ | ⟨w, e⟩ <;> (rw [e] at hb; cases hb)
      · rcases P9.st.kind z with ⟨w, e⟩ | ⟨w, e⟩ <;> (rw [e] at hb; cases hb)
    refine rd_seq ?_
    refine ⟨_, rfl, 2, rfl, 59, rfl, sa, _, rfl, hS11, fun u0 nu0 => ⟨by show 3 ≤ sizeLine; decide, fun u1 nu1 => ?_⟩⟩
    have hcl := cut_len (xs := ns.map V.int)
    have hcm : ∀ z, z ∈ cutV (ns.map V.int) (some 2) (some 59) → ∃ c : Int, z = .int c := fun z hz => cut_mem hz
    generalize cutV (ns.map V.int) (some 2) (some 59) = cs at hcl hcm nu1
    have ga : Grow H11 (upd H11 u0 (.lst cs)) := Grow.new nu0
    have gb : Grow (upd H11 u0 (.lst cs)) (upd (upd H11 u0 (.lst cs)) u1 (.lst [.int 1, .int 2, .int 3])) := Grow.new nu1
    refine ⟨u0, u1, cs, _, rfl, rfl, gb _ _ upd_same, upd_same, Nat.le_trans (show cs.length + 3 ≤ 1000 by omega) (by decide), fun u2 nu2 => ?_⟩
    have gc : Grow (upd (upd H11 u0 (.lst cs)) u1 (.lst [.int 1, .int 2, .int 3])) (upd (upd (upd H11 u0 (.lst cs)) u1 (.lst [.int 1, .int 2, .int 3])) u2 (.lst (cs ++ [.int 1, .int 2, .int 3]))) := Grow.new nu2
    have eu : upd (upd (upd H11 u0 (.lst cs)) u1 (.lst [.int 1, .int 2, .int 3])) u2 (.lst (cs ++ [.int 1, .int 2, .int 3])) u2 = some (.lst (cs ++ [.int 1, .int 2, .int 3])) := upd_same
    have g1c : Grow H11 (upd (upd (upd H11 u0 (.lst cs)) u1 (.lst [.int 1, .int 2, .int 3])) u2 (.lst (cs ++ [.int 1, .int 2, .int 3]))) := ga.trans (gb.trans gc)
    have nu2' : H11 u2 = none := (ga.trans gb).free nu2
    generalize upd (upd (upd H11 u0 (.lst cs)) u1 (.lst [.int 1, .int 2, .int 3])) u2 (.lst (cs ++ [.int 1, .int 2, .int 3])) = Hc at g1c eu
    have nu29 : H9 u2 = none := g911.free nu2'
    have u2k : u2 ≠ kp := fun z => by rw [z, e11] at nu2'; cases nu2'
    have hlen : (cs ++ [V.int 1, V.int 2, V.int 3]).length ≤ 60 := by rw [List.length_append]; show cs.length + 3 ≤ 60; omega
    have hcm2 : ∀ z ∈ cs ++ [V.int 1, V.int 2, V.int 3], ∃ c : Int, z = .int c := fun z hz => by
      rcases List.mem_append.mp hz with hz | hz
      · exact hcm z hz
      rcases List.mem_cons.mp hz with hz | hz
      · exact ⟨_, hz⟩
      rcases List.mem_cons.mp hz with hz | hz
      · exact ⟨_, hz⟩
      · exact ⟨_, List.mem_singleton.mp hz⟩
    generalize cs ++ [V.int 1, V.int 2, V.int 3] = xs at eu hlen hcm2
    have g9c := g911.trans g1c
    refine ⟨u2, rfl, ⟨_, SqL.of eu⟩, for_list (K := K) (a := u2) (xs := xs) (fun i σ H7 => ∃ (F : Addr → Prop) (B : Bk) (ys : List Addr) (v6 : Option V), σ = [some (.ref sa), some (.ref s.k), some (.ref x), some (.ref s.d), some (.int sp), some (.ref kp), v6, none, none, none, none] ∧ Lm L H7 ∧ Pair C L H7 x a F s B ∧ ¬ F kp ∧ B.ks = ks ∧ B.ds.length = i ∧ H7 kp = some (.lst (ys.map V.ref)) ∧ ys.length = i + 1 ∧ (∀ (j : Nat) (q : Addr), ys[j]? = some q → TabsN (upd H9 kp (.lst [])) H7 q ks (fun k d => B.spk k (j : Int) d)) ∧ (∀ b, H9 b ≠ none → H7 b ≠ none) ∧ H7 u2 = some (.lst xs))
      ⟨_, Bk.new ks, [t0], none, rfl, lam_keep L9 fun b o e _ _ => g9c b o e, P9.grow g9c, (fun z => (P9.fd _ z).1 nkp9), rfl, rfl, g1c _ _ e11, rfl, (fun j q hj => ?_), (fun b hb => still g9c hb), eu⟩ (fun i σ H7 _ hh => ?_) ?_ ?_⟩
    · cases j with
      | zero => cases hj; exact T11.grow g1c
      | succ j => simp at hj
    · obtain ⟨_, _, _, _, _, _, _, _, _, _, _, _, _, _, e⟩ := hh
      exact SqL.of e
    · rintro i y σ H7 hi ⟨F7, B, ys, v6, rfl, L7, P7, nF7, eks, hB7, ekp, lys, TT, dm7, eu7⟩
      obtain ⟨c, rfl⟩ := hcm2 y (List.mem_of_getElem? hi)
      have hi60 := (List.getElem?_eq_some_iff.mp hi).1
      obtain ⟨pL7, hL7⟩ := L7.tbl
      dsimp only [gName]
      refine rd_seq (rd_if ?_)
      refine ⟨_, rfl, _, rfl, _, rfl, _, rfl, x, a, F7, s, B, c, sp, rfl, L7, P7, s0, s1, by omega, fun Ha Fa Ba La Pa hla hfa hda fa gaa => ⟨_, rfl, iteF (rd_next ?_)⟩⟩
      dsimp only
      obtain ⟨n, f, hDid⟩ := hda
      have St := hDid.step P7.bk.ok (by omega)
      obtain ⟨pLa, hLa⟩ := La.tbl
      have kA : ∀ b o, H7 b = some o → H9 b = none → Ha b = some o := fun b o e n9 => gaa b o e (nM9 b n9).1 (nM9 b n9).2.1 (nM9 b n9).2.2
      have tA : ∀ b xs, H7 b = some (.tup xs) → Ha b = some (.tup xs) := fun b xs e => by
        refine gaa b _ e (ne_of e hL7 (by intro z; cases z)) (fun z => ?_) (P7.st.not_tup e)
        rcases P7.bk.kinds z with ⟨w, e1⟩ | ⟨w, e1⟩ <;> (rw [e] at e1; cases e1)
      have dmA : ∀ b, H9 b ≠ none → Ha b ≠ none := fun b hb => by
        cases e : H7 b with
        | none => exact absurd e (dm7 b hb)
        | some o =>
          by_cases z1 : b = L
          · rw [z1, hLa]; intro z; cases z
          by_cases z2 : a.M b
          · rcases Pa.bk.kinds z2 with ⟨w, e1⟩ | ⟨w, e1⟩ <;> (rw [e1]; intro z; cases z)
          by_cases z3 : s.At b
          · rcases Pa.st.kind z3 with ⟨w, e1⟩ | ⟨w, e1⟩ <;> (rw [e1]; intro z; cases z)
          rw [gaa b o e z1 z2 z3]; intro z; cases z
      have eka := kA _ _ ekp nkp9
      have nFa : ¬ Fa kp := fun z => by
        rcases fa kp z with z | z
        · exact nF7 z
        · rw [ekp] at z; cases z
      have eks' : Ba.ks = ks := St.ke.trans eks
      refine rd_seq (rd_expr (rd_bm ⟨_, rfl, .inl ⟨rfl, _, SqL.of eka⟩, _, rfl, _, rfl, x, a, Fa, Ba, s.k, rfl, Pa.bk, Pa.st.hk, fun q Hb gb Tq => ?_⟩))
      have ekb := gb _ _ eka
      refine ⟨kp, _, _, rfl, rfl, ekb, by rw [List.length_map]; exact small1000 (by omega), ?_⟩
      dsimp only
      have kD : ∀ b o, Hb b = some o → b ≠ kp → upd Hb kp (.lst (ys.map V.ref ++ [V.ref q])) b = some o := fun b o e nb => by rw [upd_ne nb]; exact e
      have nkS : ¬ s.At kp := (nM9 kp nkp9).2.2
      have Pd : Pair C L (upd Hb kp (.lst (ys.map V.ref ++ [V.ref q]))) x a Fa s Ba := Pair.own (Pa.grow gb) ekb nFa nkS
      have ekd : upd Hb kp (.lst (ys.map V.ref ++ [V.ref q])) kp = some (.lst (ys.map V.ref ++ [V.ref q])) := upd_same
      have Ld : Lm L (upd Hb kp (.lst (ys.map V.ref ++ [V.ref q]))) := lam_keep La fun b o e n1 n2 => kD b o (gb b o e) fun z => by
        rw [z, eka] at e
        exact n1 _ (Option.some.inj e).symm
      have dmD : ∀ b, H9 b ≠ none → upd Hb kp (.lst (ys.map V.ref ++ [V.ref q])) b ≠ none := fun b hb => by
        by_cases z : b = kp
        · rw [z, upd_same]; intro z; cases z
        · rw [upd_ne z]; exact still gb (dmA b hb)
      have eud := kD _ _ (gb _ _ (kA _ _ eu7 nu29)) u2k
      have tD : ∀ b xs, Hb b = some (.tup xs) → upd Hb kp (.lst (ys.map V.ref ++ [V.ref q])) b = some (.tup xs) := fun b xs e => kD b _ e (ne_of e ekb (by intro z; cases z))
      have Tqd : TabsN (upd H9 kp (.lst [])) (upd Hb kp (.lst (ys.map V.ref ++ [V.ref q]))) q ks (fun k d => Ba.spk k ((B.ds.length : Int) + 1) d) := by
        rw [eks'] at Tq
        have z1 := Tq.base (Z := upd H9 kp (.lst [])) fun b _ hn => by
          rw [upd_ne fun z => by rw [z, eka] at hn; cases hn]
          cases e9 : H9 b with
          | none => rfl
          | some o => exact absurd hn (dmA b (by rw [e9]; intro z; cases z))
        refine z1.keep (fun k d => ?_) (fun b o e n => kD b o e (ndz b n).1) tD
        rw [hla]; rfl
      have TTd : ∀ (j : Nat) (q' : Addr) (g' : Str → Int → Option Int), ys[j]? = some q' → (∀ k d, g' k d = B.spk k (j : Int) d) → TabsN (upd H9 kp (.lst [])) (upd Hb kp (.lst (ys.map V.ref ++ [V.ref q]))) q' ks g' := fun j q' g' hj hg => (TT j q' hj).keep hg (fun b o e n => kD b o (gb b o (kA b o e (ndz b n).2)) (ndz b n).1) fun b xs e => tD b xs (gb b _ (tA b xs e))
      generalize upd Hb kp (.lst (ys.map V.ref ++ [V.ref q])) = Hd at Pd ekd Ld dmD eud Tqd TTd
      obtain ⟨y0, yl, eyl⟩ : ∃ y0 yl, ys = y0 ++ [yl] := by
        rcases List.eq_nil_or_concat ys with e | ⟨y0, yl, e⟩
        · rw [e] at lys; cases lys
        · exact ⟨y0, yl, by rw [e, List.concat_eq_append]⟩
      have eyl' : ys[B.ds.length]? = some yl := by
        have : y0.length = B.ds.length := by rw [eyl, List.length_append] at lys; have l1 : y0.length + 1 = i + 1 := lys; omega
        rw [eyl, ← this]; exact List.getElem?_concat_length
      have TX := TTd B.ds.length yl (fun k d => B.spk k B.ds.length d) eyl' fun _ _ => rfl
      have at2 : atI (ys.map V.ref ++ [V.ref q]) (-2) = some (V.ref yl) := by rw [eyl, List.map_append]; exact atI_two _ _ _
      rw [← eks] at TX Tqd
      refine rd_if ?_
      refine ⟨_, rfl, _, rfl, 2, rfl, kp, _, -2, V.ref yl, rfl, rfl, SqL.of ekd, at2, _, rfl, 1, rfl, kp, _, -1, V.ref q, rfl, rfl, SqL.of ekd, atI_last _ _, s, B, Ba, n, f, yl, q, _, rfl, Pd.st, Pd.bk.ok, St, TX, Tqd, fun He ge => ⟨_, rfl, iteF (rd_next ?_)⟩⟩
      rw [eks] at Tqd
      refine ⟨Fa, Ba, ys ++ [q], _, rfl, lam_keep Ld fun b o e _ _ => ge b o e, Pd.grow ge, nFa, eks', by rw [hla, hB7], by rw [List.map_append]; exact ge _ _ ekd, by rw [List.length_append, lys]; rfl, (fun j q' hj => ?_), (fun b hb => still ge (dmD b hb)), ge _ _ eud⟩
      by_cases hjl : j < ys.length
      · rw [List.getElem?_append_left hjl] at hj
        exact (TTd j q' (fun k d => Ba.spk k (j : Int) d) hj fun k d => St.old k j d (by omega)).grow ge
      · have hj2 : j = ys.length := by
          have := (List.getElem?_eq_some_iff.mp hj).1
          rw [List.length_append] at this
          have : j < ys.length + 1 := this
          omega
        rw [hj2, List.getElem?_concat_length] at hj
        cases hj
        refine (Tqd.keep (fun k d => ?_) (fun b o e _ => e) fun b xs e => e).grow ge
        rw [hj2, lys, hB7]; rfl
    · rintro σ H7 ⟨F7, B, ys, v6, rfl, L7, P7, nF7, eks, hB7, ekp, lys, TT, dm7, eu7⟩
      dsimp only
      have h := P7.bk
      have hs := P7.st
      have O := h.ok
      obtain ⟨dx, ho⟩ := id h.ob
      obtain ⟨ps, e1, r1⟩ := id hs.hf
      obtain ⟨qs, e2, r2⟩ := id hs.he
      have lps : ps.length = B.fs.length := Paired.length r1
      have lqs : qs.length = B.ds.length := Paired.length r2
      have bkG : ∀ {H2 : Hp}, Grow H7 H2 → BkAt C H2 x a F7 B := fun g => h.keep ⟨fun b o _ e => g b o e, fun b xs e => g b _ e, fun b c dx fs e => g b _ e⟩
      have stG : ∀ {H2 : Hp}, Grow H7 H2 → StAt H2 s B := fun g => hs.keep (fun b o _ e => g b o e) fun b xs e => g b _ e
      have hkk := hs.hk
      refine rd_seq ?_
      refine ⟨_, rfl, kp, _, rfl, .inl (SqL.of ekp), ?_⟩
      rw [List.length_map]
      refine ⟨_, rfl, by omega, by omega, ?_⟩
      rw [Int.toNat_natCast]
      refine for_range (lo := 0) (n := ys.length) (fun j σ H2 => ∃ (v7 v8 : Option V), σ = [some (.ref sa), some (.ref s.k), some (.ref x), some (.ref s.d), some (.int sp), some (.ref kp), v6, v7, v8, none, none] ∧ Grow H7 H2) ⟨none, none, rfl, Grow.refl⟩ ?_ ?_
      · rintro j σ H2 hj ⟨v7, v8, rfl, g2⟩
        have ej : ys[j]? = some (ys[j]'hj) := List.getElem?_eq_getElem hj
        generalize ys[j]'hj = yt at ej
        have atj : atI (ys.map V.ref) (0 + (j : Int)) = some (V.ref yt) := by rw [Int.zero_add]; exact atI_nat (by rw [List.getElem?_map, ej]; rfl)
        have Tj := (TT j yt ej).grow g2
        dsimp only [gName]
        refine ⟨_, rfl, s.k, rfl, ⟨_, SqL.of (g2 _ _ hkk)⟩, for_list (K := K) (a := s.k) (xs := B.ks.map V.str) (fun m σ H3 => ∃ (v8 : Option V), σ = [some (.ref sa), some (.ref s.k), some (.ref x), some (.ref s.d), some (.int sp), some (.ref kp), v6, some (.int (0 + (j : Int))), v8, none, none] ∧ Grow H2 H3) ⟨_, rfl, Grow.refl⟩ (fun m σ H3 _ hh => ?_) ?_ ?_⟩
        · obtain ⟨_, _, g⟩ := hh
          exact SqL.of (g _ _ (g2 _ _ hkk))
        · rintro m y σ H3 hm ⟨v8', rfl, g3⟩
          rw [List.getElem?_map] at hm
          cases ek : B.ks[m]? with
          | none => rw [ek] at hm; cases hm
          | some k =>
            rw [ek] at hm
            cases hm
            have hkm := List.mem_of_getElem? ek
            have g03 := g2.trans g3
            dsimp only [gName]
            refine rd_if ?_
            refine ⟨_, rfl, x, dx, _, rfl, g03 _ _ ho, bf_no a (by decide +kernel) (by decide +kernel) (by decide +kernel) (by decide +kernel) (by decide +kernel), _, rfl, _, rfl, x, a, F7, B, k, _, j, (by rw [Int.zero_add]; rfl), (bkG g03).toT, hkm, by omega, .inr rfl, fun l ps' rs nl hp td i4 dy => ?_⟩
            have g4 : Grow H3 (upd H3 l (.lst (ps'.map V.ref))) := Grow.new nl
            have hl4 : RowsL (upd H3 l (.lst (ps'.map V.ref))) l rs := ⟨ps', upd_same, rowsP_mono hp fun p xs e => g4 _ _ e⟩
            generalize upd H3 l (.lst (ps'.map V.ref)) = H4 at g4 hl4
            have ek4 := g4 _ _ (g03 _ _ ekp)
            obtain ⟨kvs, ev, _, rv⟩ := Tj.grow (g3.trans g4)
            obtain ⟨ra, rs', v1, _, v3, v4, v5, v6'⟩ := rv k (by rw [← eks]; exact hkm)
            have es : rs = rs' := Strip.tidy_unique td v4 fun d => by rw [dy, v6']
            refine ⟨_, rfl, _, rfl, kp, _, _, V.ref yt, rfl, rfl, SqL.of ek4, atj, _, rfl, yt, V.ref ra, rfl, by rw [← v1]; exact DGet.k (k := Sum.inr k) ev, l, ra, rs, rs', rfl, rfl, hl4, v3, true, ⟨fun _ => es, fun _ => rfl⟩, _, rfl, iteF (rd_next ?_)⟩
            exact ⟨_, rfl, g3.trans g4⟩
        · rintro σ H3 ⟨v8', rfl, g3⟩
          exact ⟨_, _, rfl, g2.trans g3⟩
      · rintro σ H2 ⟨v7, v8, rfl, gl⟩
        dsimp only
        refine rd_seq ?_
        refine ⟨_, rfl, s.d, _, rfl, (stG gl).d_f, s.f, rfl, ⟨_, SqL.of (gl _ _ e1)⟩, for_enum (K := K) (a := s.f) (xs := ps.map V.ref) (fun i σ H3 => ∃ (v9 v10 : Option V), σ = [some (.ref sa), some (.ref s.k), some (.ref x), some (.ref s.d), some (.int sp), some (.ref kp), v6, v7, v8, v9, v10] ∧ Grow H7 H3)
          ⟨none, none, rfl, gl⟩ (fun i σ H3 _ hh => ?_) ?_ ?_⟩
        · obtain ⟨_, _, _, g⟩ := hh
          exact SqL.of (g _ _ e1)
        · rintro i y σ H3 t hi ⟨v9, v10, rfl, g2⟩ nt
          rw [List.getElem?_map] at hi
          cases ep : ps[i]? with
          | none => rw [ep] at hi; cases hi
          | some xx =>
            rw [ep] at hi
            cases hi
            obtain ⟨r, er, ht0⟩ := paired_get r1 ep
            have hM := gone_mark O i
            have hN := O.nm _ (O.fin r (List.mem_of_getElem? er)).1
            have g3 : Grow H7 (upd H3 t (.tup [.int (i : Int), .ref xx])) := g2.trans (Grow.new nt)
            refine ⟨t, _, rfl, SqT.of upd_same, rfl, _, _, rfl, _, _, rfl, rfl, ?_⟩
            dsimp only
            generalize upd H3 t (.tup [.int (i : Int), .ref xx]) = H4 at g3
            refine rd_if ?_
            refine ⟨_, rfl, x, dx, _, rfl, g3 _ _ ho, bf_no a (by decide +kernel) (by decide +kernel) (by decide +kernel) (by decide +kernel) (by decide +kernel), _, rfl, x, a, F7, B, i, r, rfl, bkG g3, er, fun q1 H5 g4 eq1 => ?_⟩
            have g04 := g3.trans g4
            refine ⟨_, rfl, _, rfl, s.d, _, rfl, (stG g04).d_g, s.g, rfl, .inl ⟨_, .inl (stG g04).hg⟩, _, rfl, _, DGet.k (k := Sum.inl _) (stG g04).hg, by show 1 ≤ sizeLine; decide, fun p1 np1 => ?_⟩
            have g5 : Grow H5 (upd H5 p1 (.tup [(valV B.gs (Sum.inl (i : Int))).getD .non])) := Grow.new np1
            have ep1 : upd H5 p1 (.tup [(valV B.gs (Sum.inl (i : Int))).getD .non]) p1 = some (.tup [(valV B.gs (Sum.inl (i : Int))).getD .non]) := upd_same
            generalize upd H5 p1 (.tup [(valV B.gs (Sum.inl (i : Int))).getD .non]) = H6 at g5 ep1
            refine ⟨xx, p1, tupF r, _, rfl, rfl, SqT.of (g5 _ _ (g04 _ _ ht0)), SqT.of ep1, (by intro z; cases z), by show 6 ≤ sizeLine; decide, (by intro z; cases z), fun _ p2 np2 => ?_⟩
            have g6 : Grow H6 (upd H6 p2 (.tup (tupF r ++ [(valV B.gs (Sum.inl (i : Int))).getD .non]))) := Grow.new np2
            have ep2 : upd H6 p2 (.tup (tupF r ++ [(valV B.gs (Sum.inl (i : Int))).getD .non])) p2 = some (.tup (tupF r ++ [(valV B.gs (Sum.inl (i : Int))).getD .non])) := upd_same
            generalize upd H6 p2 (.tup (tupF r ++ [(valV B.gs (Sum.inl (i : Int))).getD .non])) = Hg at g6 ep2
            refine ⟨_, _, datF_at (g6 _ _ (g5 _ _ eq1)) hM, datF_at ep2 hM, datF_ok hN hM, datF_ok hN hM, true, ⟨fun _ => rfl, fun _ => rfl⟩, _, rfl, iteF (rd_next ?_)⟩
            exact ⟨_, _, rfl, (g04.trans g5).trans g6⟩
        · rintro σ H3 ⟨v9, v10, rfl, g2⟩
          dsimp only
          refine rd_ret (rd_op (rd_comp ?_))
          refine ⟨_, rfl, kp, _, rfl, .inl (SqL.of (g2 _ _ ekp)), ?_⟩
          rw [List.length_map, lys]
          refine ⟨1, _, rfl, by omega, ?_⟩
          rw [show ((xs.length + 1 : Nat) - 1 : Int).toNat = B.ds.length by omega]
          refine compB_of fun D nD => ⟨(fun i zs H5 => ∃ qs' : List Addr, zs = qs'.map V.ref ∧ qs'.length = i ∧ DeedP H3 qs' (B.ds.take i) ∧ H5 = upd H3 D (.lst zs)), ⟨[], rfl, rfl, (by rw [List.take_zero]; exact .nil), rfl⟩, (fun i zs H5 hi hh => ?_), fun zs H5 hh => ?_⟩
          · obtain ⟨qs', rfl, lq', dp, rfl⟩ := hh
            have ed : B.ds[i]? = some (B.ds[i]'hi) := List.getElem?_eq_getElem hi
            generalize B.ds[i]'hi = dd at ed
            have g5 : Grow H3 (upd H3 D (.lst (qs'.map V.ref))) := Grow.new nD
            have g05 := g2.trans g5
            have dsz := O.dsz
            refine iteT ⟨_, rfl, x, dx, _, rfl, g05 _ _ ho, bf_no a (by decide +kernel) (by decide +kernel) (by decide +kernel) (by decide +kernel) (by decide +kernel), _, rfl, x, a, F7, B, i, dd, (by rw [Int.add_comm]; rfl), bkG g05, ed, fun q' hq' => ⟨upd_same, by rw [List.length_map]; exact small1000 (by omega), qs' ++ [q'], (by rw [List.map_append]; rfl), by rw [List.length_append, lq']; rfl, ?_, upd_upd⟩⟩
            rw [Strip.take_snoc ed]
            have nq : q' ≠ D := ne_of hq' upd_same (by intro z; cases z)
            rw [upd_ne nq] at hq'
            exact deedP_snoc dp hq'
          · obtain ⟨qs', rfl, lq', dp, rfl⟩ := hh
            rw [List.take_length] at dp
            have g5 : Grow H3 (upd H3 D (.lst (qs'.map V.ref))) := Grow.new nD
            have g05 := g2.trans g5
            have hok := datDs_ok (ds := B.ds) O.dw
            refine ⟨_, rfl, s.d, _, rfl, (stG g05).d_e, _, _, .lst upd_same (dats_deed (Paired.mapP dp fun _ _ e => g5 _ _ e)), .lst (g05 _ _ e2) (dats_deed (Paired.mapP r2 fun _ _ e => g05 _ _ e)), hok, hok, true, ⟨fun _ => rfl, fun _ => rfl⟩, ?_⟩
            exact q _
end
end Mine
namespace Mine
open PySem L2
theorem all_mk {l : PySem.W.OpenLaw} {w : World} {K : PySem.W.Frag} {h : Heap} {mg : Str → Option Value} {fa c L C f0 f1 f2 f3 f4 f5 f6 f7 f8 f9 f10 f11 f12 f13 f14 f15 f16 f17 f18 f19 f20 f21 f22 f23 f24 f25 f26 f27 f28 f29 f30 f31 f32 f33 f34 f35 : Addr} (X : K.In h) (G : h.Ns mainGlobals mg) (hfa : mg "law" = some (.ref fa))
    {od0 an0 : Option Addr} {sl0 : Array (Option Value)} {oc0 kV0 dc0 pm0 ct0 : Value} {od1 an1 : Option Addr} {sl1 : Array (Option Value)} {oc1 kV1 dc1 pm1 cd1 ct1 : Value} {od2 an2 : Option Addr} {sl2 : Array (Option Value)} {oc2 kV2 dc2 pm2 cd2 ct2 : Value} {od3 an3 : Option Addr} {sl3 : Array (Option Value)} {oc3 kV3 dc3 pm3 cd3 ct3 : Value} {od4 an4 : Option Addr} {sl4 : Array (Option Value)} {oc4 kV4 dc4 pm4 cd4 ct4 : Value} {od5 an5 : Option Addr} {sl5 : Array (Option Value)} {oc5 kV5 dc5 pm5 cd5 ct5 : Value} {od6 an6 : Option Addr} {sl6 : Array (Option Value)} {oc6 kV6 dc6 pm6 cd6 ct6 : Value} {od7 an7 : Option Addr} {sl7 : Array (Option Value)} {oc7 kV7 dc7 pm7 cd7 ct7 : Value} {od8 an8 : Option Addr} {sl8 : Array (Option Value)} {oc8 kV8 dc8 pm8 cd8 ct8 : Value} {od9 an9 : Option Addr} {sl9 : Array (Option Value)} {oc9 kV9 dc9 pm9 cd9 ct9 : Value} {od10 an10 : Option Addr} {sl10 : Array (Option Value)} {oc10 kV10 dc10 pm10 cd10 ct10 : Value} {dT10 : Addr} {odD10 : Option Addr} {ocD10 : Value} {slD10 : Array (Option Value)} {nD10 : Nat} {od11 an11 : Option Addr} {sl11 : Array (Option Value)} {oc11 kV11 dc11 pm11 cd11 ct11 : Value} {od12 an12 : Option Addr} {sl12 : Array (Option Value)} {oc12 kV12 dc12 pm12 cd12 ct12 : Value} {od13 an13 : Option Addr} {sl13 : Array (Option Value)} {oc13 kV13 dc13 pm13 cd13 ct13 : Value} {od14 an14 : Option Addr} {sl14 : Array (Option Value)} {oc14 kV14 dc14 pm14 cd14 ct14 : Value} {od15 an15 : Option Addr} {sl15 : Array (Option Value)} {oc15 kV15 dc15 pm15 cd15 ct15 : Value} {od16 an16 : Option Addr} {sl16 : Array (Option Value)} {oc16 kV16 dc16 pm16 cd16 ct16 : Value} {od17 an17 : Option Addr} {sl17 : Array (Option Value)} {oc17 kV17 dc17 pm17 cd17 ct17 : Value} {od18 an18 : Option Addr} {sl18 : Array (Option Value)} {oc18 kV18 dc18 pm18 cd18 ct18 : Value} {od19 an19 : Option Addr} {sl19 : Array (Option Value)} {oc19 kV19 dc19 pm19 cd19 ct19 : Value} {od20 an20 : Option Addr} {sl20 : Array (Option Value)} {oc20 kV20 dc20 pm20 cd20 ct20 : Value} {od21 an21 : Option Addr} {sl21 : Array (Option Value)} {oc21 kV21 dc21 pm21 cd21 ct21 : Value} {od22 an22 : Option Addr} {sl22 : Array (Option Value)} {oc22 kV22 dc22 pm22 cd22 ct22 : Value} {od23 an23 : Option Addr} {sl23 : Array (Option Value)} {oc23 kV23 dc23 pm23 cd23 ct23 : Value} {od24 an24 : Option Addr} {sl24 : Array (Option Value)} {oc24 kV24 dc24 pm24 cd24 ct24 : Value} {od25 an25 : Option Addr} {sl25 : Array (Option Value)} {oc25 kV25 dc25 pm25 cd25 ct25 : Value} {od26 an26 : Option Addr} {sl26 : Array (Option Value)} {oc26 kV26 dc26 pm26 cd26 ct26 : Value} {od27 an27 : Option Addr} {sl27 : Array (Option Value)} {oc27 kV27 dc27 pm27 cd27 ct27 : Value} {od28 an28 : Option Addr} {sl28 : Array (Option Value)} {oc28 kV28 dc28 pm28 cd28 ct28 : Value} {od29 an29 : Option Addr} {sl29 : Array (Option Value)} {oc29 kV29 dc29 pm29 cd29 ct29 : Value} {od30 an30 : Option Addr} {sl30 : Array (Option Value)} {oc30 kV30 dc30 pm30 cd30 ct30 : Value} {od31 an31 : Option Addr} {sl31 : Array (Option Value)} {oc31 kV31 dc31 pm31 cd31 ct31 : Value} {od32 an32 : Option Addr} {sl32 : Array (Option Value)} {oc32 kV32 dc32 pm32 cd32 ct32 : Value} {od33 an33 : Option Addr} {sl33 : Array (Option Value)} {oc33 kV33 dc33 pm33 cd33 ct33 : Value} {od34 an34 : Option Addr} {sl34 : Array (Option Value)} {oc34 kV34 dc34 pm34 cd34 ct34 : Value} {od35 an35 : Option Addr} {sl35 : Array (Option Value)} {oc35 kV35 dc35 pm35 cd35 ct35 : Value}
    (aC : PySem.W.nsIn K mainGlobals "Book" = some (some (.ref C)))
    (a0 : PySem.W.nsIn K mainGlobals "joined" = some (some (.ref f0))) (l0 : K.lookup f0 = some ⟨oc0, od0, .func (PySem.W.fnOf "joined" "joined" (defArgs sJoined) (defBody sJoined) (defScope sJoined) .none kV0 dc0 pm0 an0 (.ref c) ct0), sl0⟩) (c0 : PySem.W.codeIn K (.ref c) "joined" = true) (k0 : PySem.W.keepIn K (.ref f0) = true)
    (a1 : PySem.W.nsIn K mainGlobals "_law_cell" = some (some (.ref f1))) (l1 : K.lookup f1 = some ⟨oc1, od1, .func (PySem.W.fnOf "_law_cell" "_law_cell" (defArgs sCell) (defBody sCell) (defScope sCell) .none kV1 dc1 pm1 an1 cd1 ct1), sl1⟩) (c1 : PySem.W.codeIn K cd1 "_law_cell" = true) (k1 : PySem.W.keepIn K (.ref f1) = true)
    (a2 : PySem.W.nsIn K mainGlobals "_law_mix" = some (some (.ref f2))) (l2 : K.lookup f2 = some ⟨oc2, od2, .func (PySem.W.fnOf "_law_mix" "_law_mix" (defArgs sMix) (defBody sMix) (defScope sMix) .none kV2 dc2 pm2 an2 cd2 ct2), sl2⟩) (c2 : PySem.W.codeIn K cd2 "_law_mix" = true) (k2 : PySem.W.keepIn K (.ref f2) = true)
    (a3 : PySem.W.nsIn K mainGlobals "_law_draw" = some (some (.ref f3))) (l3 : K.lookup f3 = some ⟨oc3, od3, .func (PySem.W.fnOf "_law_draw" "_law_draw" (defArgs sDraw) (defBody sDraw) (defScope sDraw) .none kV3 dc3 pm3 an3 cd3 ct3), sl3⟩) (c3 : PySem.W.codeIn K cd3 "_law_draw" = true) (k3 : PySem.W.keepIn K (.ref f3) = true)
    (a4 : PySem.W.nsIn K mainGlobals "_law_keys" = some (some (.ref f4))) (l4 : K.lookup f4 = some ⟨oc4, od4, .func (PySem.W.fnOf "_law_keys" "_law_keys" (defArgs sKeys) (defBody sKeys) (defScope sKeys) .none kV4 dc4 pm4 an4 cd4 ct4), sl4⟩) (c4 : PySem.W.codeIn K cd4 "_law_keys" = true) (k4 : PySem.W.keepIn K (.ref f4) = true)
    (a5 : PySem.W.nsIn K mainGlobals "_law_state" = some (some (.ref f5))) (l5 : K.lookup f5 = some ⟨oc5, od5, .func (PySem.W.fnOf "_law_state" "_law_state" (defArgs sState) (defBody sState) (defScope sState) .none kV5 dc5 pm5 an5 cd5 ct5), sl5⟩) (c5 : PySem.W.codeIn K cd5 "_law_state" = true) (k5 : PySem.W.keepIn K (.ref f5) = true)
    (a6 : PySem.W.findIn K (.ref C) "check_key" = some (some (.ref f6))) (i6 : PySem.W.isFn K (.ref f6) = true) (l6 : K.lookup f6 = some ⟨oc6, od6, .func (PySem.W.fnOf "check_key" "Book.check_key" (defArgs sChkKey) (defBody sChkKey) (defScope sChkKey) .none kV6 dc6 pm6 an6 cd6 ct6), sl6⟩) (c6 : PySem.W.codeIn K cd6 "Book.check_key" = true) (k6 : PySem.W.keepIn K (.ref f6) = true)
    (a7 : PySem.W.findIn K (.ref C) "now" = some (some (.ref f7))) (i7 : PySem.W.isFn K (.ref f7) = true) (l7 : K.lookup f7 = some ⟨oc7, od7, .func (PySem.W.fnOf "now" "Book.now" (defArgs sNow) (defBody sNow) (defScope sNow) .none kV7 dc7 pm7 an7 cd7 ct7), sl7⟩) (c7 : PySem.W.codeIn K cd7 "Book.now" = true) (k7 : PySem.W.keepIn K (.ref f7) = true)
    (a8 : PySem.W.nsIn K mainGlobals "is_whole" = some (some (.ref f8))) (l8 : K.lookup f8 = some ⟨oc8, od8, .func (PySem.W.fnOf "is_whole" "is_whole" (defArgs sIsWhole) (defBody sIsWhole) (defScope sIsWhole) .none kV8 dc8 pm8 an8 cd8 ct8), sl8⟩) (c8 : PySem.W.codeIn K cd8 "is_whole" = true) (k8 : PySem.W.keepIn K (.ref f8) = true)
    (a9 : PySem.W.findIn K (.ref C) "turn_meant" = some (some (.ref f9))) (i9 : PySem.W.isFn K (.ref f9) = true) (l9 : K.lookup f9 = some ⟨oc9, od9, .func (PySem.W.fnOf "turn_meant" "Book.turn_meant" (defArgs sMeant) (defBody sMeant) (defScope sMeant) .none kV9 dc9 pm9 an9 cd9 ct9), sl9⟩) (c9 : PySem.W.codeIn K cd9 "Book.turn_meant" = true) (k9 : PySem.W.keepIn K (.ref f9) = true)
    (a10 : PySem.W.findIn K (.ref C) "table" = some (some (.ref f10))) (i10 : PySem.W.isFn K (.ref f10) = true) (l10 : K.lookup f10 = some ⟨oc10, od10, .func (PySem.W.fnOf "table" "Book.table" (defArgs sTable) (defBody sTable) (defScope sTable) (.ref dT10) kV10 dc10 pm10 an10 cd10 ct10), sl10⟩) (c10 : PySem.W.codeIn K cd10 "Book.table" = true) (k10 : PySem.W.keepIn K (.ref f10) = true) (e10 : K.lookup dT10 = some ⟨ocD10, odD10, .seq #[Value.none] nD10, slD10⟩)
    (a11 : PySem.W.nsIn K mainGlobals "_law_tables" = some (some (.ref f11))) (l11 : K.lookup f11 = some ⟨oc11, od11, .func (PySem.W.fnOf "_law_tables" "_law_tables" (defArgs sTabs) (defBody sTabs) (defScope sTabs) .none kV11 dc11 pm11 an11 cd11 ct11), sl11⟩) (c11 : PySem.W.codeIn K cd11 "_law_tables" = true) (k11 : PySem.W.keepIn K (.ref f11) = true)
    (a12 : PySem.W.nsIn K mainGlobals "_law_standing" = some (some (.ref f12))) (l12 : K.lookup f12 = some ⟨oc12, od12, .func (PySem.W.fnOf "_law_standing" "_law_standing" (defArgs sStand) (defBody sStand) (defScope sStand) .none kV12 dc12 pm12 an12 cd12 ct12), sl12⟩) (c12 : PySem.W.codeIn K cd12 "_law_standing" = true) (k12 : PySem.W.keepIn K (.ref f12) = true)
    (a13 : PySem.W.nsIn K mainGlobals "_law_stretch" = some (some (.ref f13))) (l13 : K.lookup f13 = some ⟨oc13, od13, .func (PySem.W.fnOf "_law_stretch" "_law_stretch" (defArgs sStretch) (defBody sStretch) (defScope sStretch) .none kV13 dc13 pm13 an13 cd13 ct13), sl13⟩) (c13 : PySem.W.codeIn K cd13 "_law_stretch" = true) (k13 : PySem.W.keepIn K (.ref f13) = true)
    (a14 : PySem.W.nsIn K mainGlobals "_law_whole" = some (some (.ref f14))) (l14 : K.lookup f14 = some ⟨oc14, od14, .func (PySem.W.fnOf "_law_whole" "_law_whole" (defArgs sWhole) (defBody sWhole) (defScope sWhole) .none kV14 dc14 pm14 an14 cd14 ct14), sl14⟩) (c14 : PySem.W.codeIn K cd14 "_law_whole" = true) (k14 : PySem.W.keepIn K (.ref f14) = true)
    (a15 : PySem.W.nsIn K mainGlobals "is_day" = some (some (.ref f15))) (l15 : K.lookup f15 = some ⟨oc15, od15, .func (PySem.W.fnOf "is_day" "is_day" (defArgs sIsDay) (defBody sIsDay) (defScope sIsDay) .none kV15 dc15 pm15 an15 cd15 ct15), sl15⟩) (c15 : PySem.W.codeIn K cd15 "is_day" = true) (k15 : PySem.W.keepIn K (.ref f15) = true)
    (a16 : PySem.W.nsIn K mainGlobals "check_stretch" = some (some (.ref f16))) (l16 : K.lookup f16 = some ⟨oc16, od16, .func (PySem.W.fnOf "check_stretch" "check_stretch" (defArgs sCheck) (defBody sCheck) (defScope sCheck) .none kV16 dc16 pm16 an16 cd16 ct16), sl16⟩) (c16 : PySem.W.codeIn K cd16 "check_stretch" = true) (k16 : PySem.W.keepIn K (.ref f16) = true)
    (a17 : PySem.W.findIn K (.ref C) "check_room" = some (some (.ref f17))) (i17 : PySem.W.isFn K (.ref f17) = true) (l17 : K.lookup f17 = some ⟨oc17, od17, .func (PySem.W.fnOf "check_room" "Book.check_room" (defArgs sChkRoom) (defBody sChkRoom) (defScope sChkRoom) .none kV17 dc17 pm17 an17 cd17 ct17), sl17⟩) (c17 : PySem.W.codeIn K cd17 "Book.check_room" = true) (k17 : PySem.W.keepIn K (.ref f17) = true)
    (a18 : PySem.W.findIn K (.ref C) "take_deed" = some (some (.ref f18))) (i18 : PySem.W.isFn K (.ref f18) = true) (l18 : K.lookup f18 = some ⟨oc18, od18, .func (PySem.W.fnOf "take_deed" "Book.take_deed" (defArgs sTake) (defBody sTake) (defScope sTake) .none kV18 dc18 pm18 an18 cd18 ct18), sl18⟩) (c18 : PySem.W.codeIn K cd18 "Book.take_deed" = true) (k18 : PySem.W.keepIn K (.ref f18) = true)
    (a19 : PySem.W.nsIn K mainGlobals "goes_on" = some (some (.ref f19))) (l19 : K.lookup f19 = some ⟨oc19, od19, .func (PySem.W.fnOf "goes_on" "goes_on" (defArgs sGoesOn) (defBody sGoesOn) (defScope sGoesOn) .none kV19 dc19 pm19 an19 cd19 ct19), sl19⟩) (c19 : PySem.W.codeIn K cd19 "goes_on" = true) (k19 : PySem.W.keepIn K (.ref f19) = true)
    (a20 : PySem.W.nsIn K mainGlobals "around" = some (some (.ref f20))) (l20 : K.lookup f20 = some ⟨oc20, od20, .func (PySem.W.fnOf "around" "around" (defArgs sAround) (defBody sAround) (defScope sAround) .none kV20 dc20 pm20 an20 cd20 ct20), sl20⟩) (c20 : PySem.W.codeIn K cd20 "around" = true) (k20 : PySem.W.keepIn K (.ref f20) = true)
    (a21 : PySem.W.nsIn K mainGlobals "laid" = some (some (.ref f21))) (l21 : K.lookup f21 = some ⟨oc21, od21, .func (PySem.W.fnOf "laid" "laid" (defArgs sLaid) (defBody sLaid) (defScope sLaid) .none kV21 dc21 pm21 an21 cd21 ct21), sl21⟩) (c21 : PySem.W.codeIn K cd21 "laid" = true) (k21 : PySem.W.keepIn K (.ref f21) = true)
    (a22 : PySem.W.findIn K (.ref C) "find" = some (some (.ref f22))) (i22 : PySem.W.isFn K (.ref f22) = true) (l22 : K.lookup f22 = some ⟨oc22, od22, .func (PySem.W.fnOf "find" "Book.find" (defArgs sFind) (defBody sFind) (defScope sFind) .none kV22 dc22 pm22 an22 cd22 ct22), sl22⟩) (c22 : PySem.W.codeIn K cd22 "Book.find" = true) (k22 : PySem.W.keepIn K (.ref f22) = true)
    (a23 : PySem.W.findIn K (.ref C) "check_number" = some (some (.ref f23))) (i23 : PySem.W.isFn K (.ref f23) = true) (l23 : K.lookup f23 = some ⟨oc23, od23, .func (PySem.W.fnOf "check_number" "Book.check_number" (defArgs sChkNum) (defBody sChkNum) (defScope sChkNum) .none kV23 dc23 pm23 an23 cd23 ct23), sl23⟩) (c23 : PySem.W.codeIn K cd23 "Book.check_number" = true) (k23 : PySem.W.keepIn K (.ref f23) = true)
    (a24 : PySem.W.findIn K (.ref C) "table_of_known" = some (some (.ref f24))) (i24 : PySem.W.isFn K (.ref f24) = true) (l24 : K.lookup f24 = some ⟨oc24, od24, .func (PySem.W.fnOf "table_of_known" "Book.table_of_known" (defArgs sKnown) (defBody sKnown) (defScope sKnown) .none kV24 dc24 pm24 an24 cd24 ct24), sl24⟩) (c24 : PySem.W.codeIn K cd24 "Book.table_of_known" = true) (k24 : PySem.W.keepIn K (.ref f24) = true)
    (a25 : PySem.W.findIn K (.ref C) "withdraw" = some (some (.ref f25))) (i25 : PySem.W.isFn K (.ref f25) = true) (l25 : K.lookup f25 = some ⟨oc25, od25, .func (PySem.W.fnOf "withdraw" "Book.withdraw" (defArgs sWithd) (defBody sWithd) (defScope sWithd) .none kV25 dc25 pm25 an25 cd25 ct25), sl25⟩) (c25 : PySem.W.codeIn K cd25 "Book.withdraw" = true) (k25 : PySem.W.keepIn K (.ref f25) = true)
    (a26 : PySem.W.nsIn K mainGlobals "_law_done" = some (some (.ref f26))) (l26 : K.lookup f26 = some ⟨oc26, od26, .func (PySem.W.fnOf "_law_done" "_law_done" (defArgs sDone) (defBody sDone) (defScope sDone) .none kV26 dc26 pm26 an26 cd26 ct26), sl26⟩) (c26 : PySem.W.codeIn K cd26 "_law_done" = true) (k26 : PySem.W.keepIn K (.ref f26) = true)
    (a27 : PySem.W.nsIn K mainGlobals "_law_days" = some (some (.ref f27))) (l27 : K.lookup f27 = some ⟨oc27, od27, .func (PySem.W.fnOf "_law_days" "_law_days" (defArgs sDays) (defBody sDays) (defScope sDays) .none kV27 dc27 pm27 an27 cd27 ct27), sl27⟩) (c27 : PySem.W.codeIn K cd27 "_law_days" = true) (k27 : PySem.W.keepIn K (.ref f27) = true)
    (a28 : PySem.W.nsIn K mainGlobals "_law_step_right" = some (some (.ref f28))) (l28 : K.lookup f28 = some ⟨oc28, od28, .func (PySem.W.fnOf "_law_step_right" "_law_step_right" (defArgs sStep) (defBody sStep) (defScope sStep) .none kV28 dc28 pm28 an28 cd28 ct28), sl28⟩) (c28 : PySem.W.codeIn K cd28 "_law_step_right" = true) (k28 : PySem.W.keepIn K (.ref f28) = true)
    (a29 : PySem.W.nsIn K mainGlobals "has_only" = some (some (.ref f29))) (l29 : K.lookup f29 = some ⟨oc29, od29, .func (PySem.W.fnOf "has_only" "has_only" (defArgs sHas) (defBody sHas) (defScope sHas) .none kV29 dc29 pm29 an29 cd29 ct29), sl29⟩) (c29 : PySem.W.codeIn K cd29 "has_only" = true) (k29 : PySem.W.keepIn K (.ref f29) = true)
    (a30 : PySem.W.nsIn K mainGlobals "is_name" = some (some (.ref f30))) (l30 : K.lookup f30 = some ⟨oc30, od30, .func (PySem.W.fnOf "is_name" "is_name" (defArgs sName) (defBody sName) (defScope sName) .none kV30 dc30 pm30 an30 cd30 ct30), sl30⟩) (c30 : PySem.W.codeIn K cd30 "is_name" = true) (k30 : PySem.W.keepIn K (.ref f30) = true)
    (a31 : PySem.W.nsIn K mainGlobals "are_keys" = some (some (.ref f31))) (l31 : K.lookup f31 = some ⟨oc31, od31, .func (PySem.W.fnOf "are_keys" "are_keys" (defArgs sAreKeys) (defBody sAreKeys) (defScope sAreKeys) .none kV31 dc31 pm31 an31 cd31 ct31), sl31⟩) (c31 : PySem.W.codeIn K cd31 "are_keys" = true) (k31 : PySem.W.keepIn K (.ref f31) = true)
    (a32 : PySem.W.findIn K (.ref C) "__init__" = some (some (.ref f32))) (i32 : PySem.W.isFn K (.ref f32) = true) (l32 : K.lookup f32 = some ⟨oc32, od32, .func (PySem.W.fnOf "__init__" "Book.__init__" (defArgs sInit) (defBody sInit) (defScope sInit) .none kV32 dc32 pm32 an32 cd32 ct32), sl32⟩) (c32 : PySem.W.codeIn K cd32 "Book.__init__" = true) (k32 : PySem.W.keepIn K (.ref f32) = true)
    (a33 : PySem.W.findIn K (.ref C) "found" = some (some (.ref f33))) (i33 : PySem.W.isFn K (.ref f33) = true) (l33 : K.lookup f33 = some ⟨oc33, od33, .func (PySem.W.fnOf "found" "Book.found" (defArgs sFound) (defBody sFound) (defScope sFound) .none kV33 dc33 pm33 an33 cd33 ct33), sl33⟩) (c33 : PySem.W.codeIn K cd33 "Book.found" = true) (k33 : PySem.W.keepIn K (.ref f33) = true)
    (a34 : PySem.W.findIn K (.ref C) "deed_at" = some (some (.ref f34))) (i34 : PySem.W.isFn K (.ref f34) = true) (l34 : K.lookup f34 = some ⟨oc34, od34, .func (PySem.W.fnOf "deed_at" "Book.deed_at" (defArgs sDeedAt) (defBody sDeedAt) (defScope sDeedAt) .none kV34 dc34 pm34 an34 cd34 ct34), sl34⟩) (c34 : PySem.W.codeIn K cd34 "Book.deed_at" = true) (k34 : PySem.W.keepIn K (.ref f34) = true)
    (a35 : PySem.W.nsIn K mainGlobals "law" = some (some (.ref f35))) (l35 : K.lookup f35 = some ⟨oc35, od35, .func (PySem.W.fnOf "law" "law" (defArgs sLaw) (defBody sLaw) (defScope sLaw) .none kV35 dc35 pm35 an35 cd35 ct35), sl35⟩) (c35 : PySem.W.codeIn K cd35 "law" = true) (k35 : PySem.W.keepIn K (.ref f35) = true)
    (pg : PySem.W.plainGet K C Str.empty = true) (hd : PySem.W.hasDictIn K C = true) (po : PySem.W.plainOver K C = true) (sa : PySem.W.findIn K (.ref C) "__setattr__" = some (some (.builtin "object.__setattr__"))) (mk : PySem.W.makesIn K C = true) (kc : PySem.W.keepIn K (.ref C) = true)
    (n1 : PySem.W.findIn K (.ref C) "names" = some none) (n2 : PySem.W.findIn K (.ref C) "findings" = some none) (n3 : PySem.W.findIn K (.ref C) "withdrawals" = some none) (n4 : PySem.W.findIn K (.ref C) "deeds" = some none) (n5 : PySem.W.findIn K (.ref C) "tables" = some none)
    {t1 t2 t3 t4 t5 t6 : Tok} (q1 : PySem.W.nsIn K mainGlobals "LETTERS" = some (some (.str letZ t1))) (q2 : PySem.W.nsIn K mainGlobals "MOST_LETTERS" = some (some (.int 8 t2))) (q3 : PySem.W.nsIn K mainGlobals "LAST_DAY" = some (some (.int 399 t3))) (q4 : PySem.W.nsIn K mainGlobals "MOST_KEYS" = some (some (.int 8 t4))) (q5 : PySem.W.nsIn K mainGlobals "MOST_DEEDS" = some (some (.int 60 t5))) (q6 : PySem.W.nsIn K mainGlobals "MOST_VALUE" = some (some (.int 1000000000 t6)))
    (z1 : PySem.W.nsIn K mainGlobals "len" = some none) (z2 : PySem.W.nsIn K mainGlobals "range" = some none) (z3 : PySem.W.nsIn K mainGlobals "sorted" = some none) (z4 : PySem.W.nsIn K mainGlobals "isinstance" = some none) (z5 : PySem.W.nsIn K mainGlobals "int" = some none) (z6 : PySem.W.nsIn K mainGlobals "bool" = some none) (z7 : PySem.W.nsIn K mainGlobals "str" = some none) (z8 : PySem.W.nsIn K mainGlobals "list" = some none) (z9 : PySem.W.nsIn K mainGlobals "tuple" = some none) (z10 : PySem.W.nsIn K mainGlobals "dict" = some none) (z11 : PySem.W.nsIn K mainGlobals "set" = some none) (z12 : PySem.W.nsIn K mainGlobals "max" = some none) (z13 : PySem.W.nsIn K mainGlobals "min" = some none) (z14 : PySem.W.nsIn K mainGlobals "all" = some none) (z15 : PySem.W.nsIn K mainGlobals "enumerate" = some none) :
    ∃ fd : FuncData, (∀ (s : Shared) (v : Value), BindsTo s fd ⟨[v], []⟩ [("_law_script", v)]) ∧ ∀ base : Heap, K.In base → base.Ns mainGlobals mg → PySem.W.CodeHd base c L → base.BuiltinsAt mg L → FnOk l.prog w K mg base CX0 8 fa fd ["_law_script"] (spLaw K C L) := by
  have e := hfa.symm.trans (PySem.W.mg_of X G a35)
  cases e
  have N : Free mg := ⟨PySem.W.mg_none_of X G z1, PySem.W.mg_none_of X G z2, PySem.W.mg_none_of X G z3, PySem.W.mg_none_of X G z4, PySem.W.mg_none_of X G z5, PySem.W.mg_none_of X G z6, PySem.W.mg_none_of X G z7, PySem.W.mg_none_of X G z8, PySem.W.mg_none_of X G z9, PySem.W.mg_none_of X G z10, PySem.W.mg_none_of X G z11, PySem.W.mg_none_of X G z12, PySem.W.mg_none_of X G z13, PySem.W.mg_none_of X G z14, PySem.W.mg_none_of X G z15⟩
  have Z : Con mg := ⟨⟨_, PySem.W.mg_of X G q1⟩, ⟨_, PySem.W.mg_of X G q2⟩, ⟨_, PySem.W.mg_of X G q3⟩, ⟨_, PySem.W.mg_of X G q4⟩, ⟨_, PySem.W.mg_of X G q5⟩, ⟨_, PySem.W.mg_of X G q6⟩⟩
  have TB : BkC K C := ⟨⟨pg, hd, po, sa⟩, n1, n2, n3, n4, n5⟩
  have mC := PySem.W.mg_of X G aC
  have F1 := fun_mk (st := sCell) l1 c1 k1
  have b1 := F1.binds (ps := ["_law_script", "_law_k"]) fun _ _ _ _ _ _ us hl => match us, hl with | [_, _], _ => rfl
  have m1 := PySem.W.mg_of X G a1
  have F2 := fun_mk (st := sMix) l2 c2 k2
  have b2 := F2.binds (ps := ["_law_cell_here", "_law_k"]) fun _ _ _ _ _ _ us hl => match us, hl with | [_, _], _ => rfl
  have m2 := PySem.W.mg_of X G a2
  have F3 := fun_mk (st := sDraw) l3 c3 k3
  have b3 := F3.binds (ps := ["_law_cell_here", "_law_k", "_law_many"]) fun _ _ _ _ _ _ us hl => match us, hl with | [_, _, _], _ => rfl
  have m3 := PySem.W.mg_of X G a3
  have F4 := fun_mk (st := sKeys) l4 c4 k4
  have b4 := F4.binds (ps := ["_law_cell_here"]) fun _ _ _ _ _ _ us hl => match us, hl with | [_], _ => rfl
  have m4 := PySem.W.mg_of X G a4
  have F5 := fun_mk (st := sState) l5 c5 k5
  have b5 := F5.binds (ps := ["_law_keys_here"]) fun _ _ _ _ _ _ us hl => match us, hl with | [_], _ => rfl
  have m5 := PySem.W.mg_of X G a5
  have F6 := fun_mk (st := sChkKey) l6 c6 k6
  have b6 := F6.binds (ps := ["self", "key"]) fun _ _ _ _ _ _ us hl => match us, hl with | [_, _], _ => rfl
  have F7 := fun_mk (st := sNow) l7 c7 k7
  have b7 := F7.binds (ps := ["self"]) fun _ _ _ _ _ _ us hl => match us, hl with | [_], _ => rfl
  have F8 := fun_mk (st := sIsWhole) l8 c8 k8
  have b8 := F8.binds (ps := ["thing", "low", "high"]) fun _ _ _ _ _ _ us hl => match us, hl with | [_, _, _], _ => rfl
  have m8 := PySem.W.mg_of X G a8
  have F9 := fun_mk (st := sMeant) l9 c9 k9
  have b9 := F9.binds (ps := ["self", "turn"]) fun _ _ _ _ _ _ us hl => match us, hl with | [_, _], _ => rfl
  have F10 := FunD.mk' (st := sTable) l10 c10 k10
  have b10 := F10.binds (us0 := []) (ps := ["self", "key", "turn"]) (ds := [Value.none]) e10 rfl fun _ _ _ _ _ _ us hl => match us, (show us.length = 2 by simpa using hl) with | [_, _], _ => ⟨_, rfl, rfl⟩
  have bf10 := F10.binds (us0 := []) (ps := ["self", "key", "turn"]) (ds := []) e10 rfl fun _ _ _ _ _ _ us hl => match us, hl with | [_, _, _], _ => ⟨_, rfl, rfl⟩
  have F11 := fun_mk (st := sTabs) l11 c11 k11
  have b11 := F11.binds (ps := ["_law_book", "_law_keys_here"]) fun _ _ _ _ _ _ us hl => match us, hl with | [_, _], _ => rfl
  have m11 := PySem.W.mg_of X G a11
  have F12 := fun_mk (st := sStand) l12 c12 k12
  have b12 := F12.binds (ps := ["_law_state_here"]) fun _ _ _ _ _ _ us hl => match us, hl with | [_], _ => rfl
  have m12 := PySem.W.mg_of X G a12
  have F13 := fun_mk (st := sStretch) l13 c13 k13
  have b13 := F13.binds (ps := ["_law_cell_here", "_law_k", "_law_span"]) fun _ _ _ _ _ _ us hl => match us, hl with | [_, _, _], _ => rfl
  have m13 := PySem.W.mg_of X G a13
  have F14 := fun_mk (st := sWhole) l14 c14 k14
  have b14 := F14.binds (ps := ["_law_found"]) fun _ _ _ _ _ _ us hl => match us, hl with | [_], _ => rfl
  have m14 := PySem.W.mg_of X G a14
  have F15 := fun_mk (st := sIsDay) l15 c15 k15
  have b15 := F15.binds (ps := ["thing"]) fun _ _ _ _ _ _ us hl => match us, hl with | [_], _ => rfl
  have m15 := PySem.W.mg_of X G a15
  have F16 := fun_mk (st := sCheck) l16 c16 k16
  have b16 := F16.binds (ps := ["first", "last"]) fun _ _ _ _ _ _ us hl => match us, hl with | [_, _], _ => rfl
  have m16 := PySem.W.mg_of X G a16
  have F17 := fun_mk (st := sChkRoom) l17 c17 k17
  have b17 := F17.binds (ps := ["self"]) fun _ _ _ _ _ _ us hl => match us, hl with | [_], _ => rfl
  have F18 := fun_mk (st := sTake) l18 c18 k18
  have b18 := F18.binds (ps := ["self", "word", "number", "strip"]) fun _ _ _ _ _ _ us hl => match us, hl with | [_, _, _, _], _ => rfl
  have F19 := fun_mk (st := sGoesOn) l19 c19 k19
  have b19 := F19.binds (ps := ["row", "first", "mark"]) fun _ _ _ _ _ _ us hl => match us, hl with | [_, _, _], _ => rfl
  have m19 := PySem.W.mg_of X G a19
  have F20 := fun_mk (st := sAround) l20 c20 k20
  have b20 := F20.binds (ps := ["rows", "first", "last"]) fun _ _ _ _ _ _ us hl => match us, hl with | [_, _, _], _ => rfl
  have m20 := PySem.W.mg_of X G a20
  have F21 := fun_mk (st := sLaid) l21 c21 k21
  have b21 := F21.binds (ps := ["strip", "first", "last", "mark"]) fun _ _ _ _ _ _ us hl => match us, hl with | [_, _, _, _], _ => rfl
  have m21 := PySem.W.mg_of X G a21
  have F22 := fun_mk (st := sFind) l22 c22 k22
  have b22 := F22.binds (ps := ["self", "key", "first", "last", "value"]) fun _ _ _ _ _ _ us hl => match us, hl with | [_, _, _, _, _], _ => rfl
  have F23 := fun_mk (st := sChkNum) l23 c23 k23
  have b23 := F23.binds (ps := ["self", "number"]) fun _ _ _ _ _ _ us hl => match us, hl with | [_, _], _ => rfl
  have F24 := fun_mk (st := sKnown) l24 c24 k24
  have b24 := F24.binds (ps := ["self", "key"]) fun _ _ _ _ _ _ us hl => match us, hl with | [_, _], _ => rfl
  have F25 := fun_mk (st := sWithd) l25 c25 k25
  have b25 := F25.binds (ps := ["self", "number"]) fun _ _ _ _ _ _ us hl => match us, hl with | [_, _], _ => rfl
  have F26 := fun_mk (st := sDone) l26 c26 k26
  have b26 := F26.binds (ps := ["_law_book", "_law_state_here", "_law_cell_here", "_law_span"]) fun _ _ _ _ _ _ us hl => match us, hl with | [_, _, _, _], _ => rfl
  have m26 := PySem.W.mg_of X G a26
  have F27 := fun_mk (st := sDays) l27 c27 k27
  have b27 := F27.binds (ps := ["_law_rows"]) fun _ _ _ _ _ _ us hl => match us, hl with | [_], _ => rfl
  have m27 := PySem.W.mg_of X G a27
  have F28 := fun_mk (st := sStep) l28 c28 k28
  have b28 := F28.binds (ps := ["_law_state_here", "_law_before", "_law_behind"]) fun _ _ _ _ _ _ us hl => match us, hl with | [_, _, _], _ => rfl
  have m28 := PySem.W.mg_of X G a28
  have F29 := fun_mk (st := sHas) l29 c29 k29
  have b29 := F29.binds (ps := ["text", "signs", "most"]) fun _ _ _ _ _ _ us hl => match us, hl with | [_, _, _], _ => rfl
  have m29 := PySem.W.mg_of X G a29
  have F30 := fun_mk (st := sName) l30 c30 k30
  have b30 := F30.binds (ps := ["thing"]) fun _ _ _ _ _ _ us hl => match us, hl with | [_], _ => rfl
  have m30 := PySem.W.mg_of X G a30
  have F31 := fun_mk (st := sAreKeys) l31 c31 k31
  have b31 := F31.binds (ps := ["thing"]) fun _ _ _ _ _ _ us hl => match us, hl with | [_], _ => rfl
  have m31 := PySem.W.mg_of X G a31
  have F32 := fun_mk (st := sInit) l32 c32 k32
  have b32 := F32.binds (ps := ["self", "keys"]) fun _ _ _ _ _ _ us hl => match us, hl with | [_, _], _ => rfl
  have F33 := fun_mk (st := sFound) l33 c33 k33
  have b33 := F33.binds (ps := ["self", "number"]) fun _ _ _ _ _ _ us hl => match us, hl with | [_, _], _ => rfl
  have F34 := fun_mk (st := sDeedAt) l34 c34 k34
  have b34 := F34.binds (ps := ["self", "turn"]) fun _ _ _ _ _ _ us hl => match us, hl with | [_, _], _ => rfl
  have F35 := fun_mk (st := sLaw) l35 c35 k35
  have b35 := F35.binds (ps := ["_law_script"]) fun _ _ _ _ _ _ us hl => match us, hl with | [_], _ => rfl
  have m35 := PySem.W.mg_of X G a35
  have F0 := fun_mk (st := sJoined) l0 c0 k0
  have b0 := F0.binds (ps := ["rows"]) fun _ _ _ _ _ _ us hl => match us, hl with | [_], _ => rfl
  have m0 := PySem.W.mg_of X G a0
  refine ⟨PySem.W.fnOf "law" "law" (defArgs sLaw) (defBody sLaw) (defScope sLaw) .none kV35 dc35 pm35 an35 cd35 ct35, fun s v => .of_eq rfl, fun base hK hN hC hB => ?_⟩
  have G1 : FnOk l.prog w K mg base CX0 1 f1 _ ["_law_script", "_law_k"] (spCell K) := ok_cell F1 N
  have C1 : Cal l.prog w K mg base "_law_cell" 1 ["_law_script", "_law_k"] (spCell K) f1 _ := ⟨G1, m1, k1, b1⟩
  have G2 : FnOk l.prog w K mg base CX0 1 f2 _ ["_law_cell_here", "_law_k"] spMix := ok_mix F2 
  have C2 : Cal l.prog w K mg base "_law_mix" 1 ["_law_cell_here", "_law_k"] spMix f2 _ := ⟨G2, m2, k2, b2⟩
  have G3 : FnOk l.prog w K mg base CX0 2 f3 _ ["_law_cell_here", "_law_k", "_law_many"] spDraw := ok_draw F3 C2
  have C3 : Cal l.prog w K mg base "_law_draw" 2 ["_law_cell_here", "_law_k", "_law_many"] spDraw f3 _ := ⟨G3, m3, k3, b3⟩
  have G4 : FnOk l.prog w K mg base CX0 3 f4 _ ["_law_cell_here"] spKeys := ok_keys F4 N C3 C2
  have C4 : Cal l.prog w K mg base "_law_keys" 3 ["_law_cell_here"] spKeys f4 _ := ⟨G4, m4, k4, b4⟩
  have G5 : FnOk l.prog w K mg base CX0 1 f5 _ ["_law_keys_here"] spState := ok_state F5 N
  have C5 : Cal l.prog w K mg base "_law_state" 1 ["_law_keys_here"] spState f5 _ := ⟨G5, m5, k5, b5⟩
  have G6 : FnOk l.prog w K mg base CX0 1 f6 _ ["self", "key"] (spChkKey C) := ok_chkKey F6 TB
  have M6 : MC l.prog w K mg base C "check_key" 1 ["self", "key"] [] [] (spChkKey C) f6 _ := ⟨TB.cl, ⟨a6, i6, k6⟩, G6, b6, .nil⟩
  have G7 : FnOk l.prog w K mg base CX0 1 f7 _ ["self"] (spNow C) := ok_now F7 N TB
  have M7 : MC l.prog w K mg base C "now" 1 ["self"] [] [] (spNow C) f7 _ := ⟨TB.cl, ⟨a7, i7, k7⟩, G7, b7, .nil⟩
  have G8 : FnOk l.prog w K mg base CX0 1 f8 _ ["thing", "low", "high"] spIsWhole := ok_isWhole F8 N
  have C8 : Cal l.prog w K mg base "is_whole" 1 ["thing", "low", "high"] spIsWhole f8 _ := ⟨G8, m8, k8, b8⟩
  have G9 : FnOk l.prog w K mg base CX0 2 f9 _ ["self", "turn"] (spMeant C) := ok_meant F9 TB M7 C8
  have M9 : MC l.prog w K mg base C "turn_meant" 2 ["self", "turn"] [] [] (spMeant C) f9 _ := ⟨TB.cl, ⟨a9, i9, k9⟩, G9, b9, .nil⟩
  have G10 : FnOk l.prog w K mg base CX0 3 f10 _ ["self", "key", "turn"] (spTable C) := ok_table F10 N TB M6 M9
  have M10 : MC l.prog w K mg base C "table" 3 ["self", "key", "turn"] [Value.none] [V.non] (spTable C) f10 _ := ⟨TB.cl, ⟨a10, i10, k10⟩, G10, b10, .cons rfl .nil⟩
  have Mf10 : MC l.prog w K mg base C "table" 3 ["self", "key", "turn"] [] [] (spTable C) f10 _ := ⟨TB.cl, ⟨a10, i10, k10⟩, G10, bf10, .nil⟩
  have G11 : FnOk l.prog w K mg base CX0 4 f11 _ ["_law_book", "_law_keys_here"] (spTabs C) := ok_tabs F11 M10
  have C11 : Cal l.prog w K mg base "_law_tables" 4 ["_law_book", "_law_keys_here"] (spTabs C) f11 _ := ⟨G11, m11, k11, b11⟩
  have G12 : FnOk l.prog w K mg base CX0 1 f12 _ ["_law_state_here"] spStand := ok_stand F12 N
  have C12 : Cal l.prog w K mg base "_law_standing" 1 ["_law_state_here"] spStand f12 _ := ⟨G12, m12, k12, b12⟩
  have G13 : FnOk l.prog w K mg base CX0 3 f13 _ ["_law_cell_here", "_law_k", "_law_span"] spStretch := ok_stretch F13 N C3
  have C13 : Cal l.prog w K mg base "_law_stretch" 3 ["_law_cell_here", "_law_k", "_law_span"] spStretch f13 _ := ⟨G13, m13, k13, b13⟩
  have G14 : FnOk l.prog w K mg base CX0 1 f14 _ ["_law_found"] spWhole := ok_whole F14 N
  have C14 : Cal l.prog w K mg base "_law_whole" 1 ["_law_found"] spWhole f14 _ := ⟨G14, m14, k14, b14⟩
  have G15 : FnOk l.prog w K mg base CX0 2 f15 _ ["thing"] spIsDay := ok_isDay F15 Z C8
  have C15 : Cal l.prog w K mg base "is_day" 2 ["thing"] spIsDay f15 _ := ⟨G15, m15, k15, b15⟩
  have G16 : FnOk l.prog w K mg base CX0 3 f16 _ ["first", "last"] spCheck := ok_check F16 Z C8 C15
  have C16 : Cal l.prog w K mg base "check_stretch" 3 ["first", "last"] spCheck f16 _ := ⟨G16, m16, k16, b16⟩
  have G17 : FnOk l.prog w K mg base CX0 2 f17 _ ["self"] (spChkRoom C) := ok_chkRoom F17 Z TB M7
  have M17 : MC l.prog w K mg base C "check_room" 2 ["self"] [] [] (spChkRoom C) f17 _ := ⟨TB.cl, ⟨a17, i17, k17⟩, G17, b17, .nil⟩
  have G18 : FnOk l.prog w K mg base CX0 1 f18 _ ["self", "word", "number", "strip"] (spTake C) := ok_take F18 N TB
  have M18 : MC l.prog w K mg base C "take_deed" 1 ["self", "word", "number", "strip"] [] [] (spTake C) f18 _ := ⟨TB.cl, ⟨a18, i18, k18⟩, G18, b18, .nil⟩
  have G19 : FnOk l.prog w K mg base CX0 1 f19 _ ["row", "first", "mark"] spGoesOn := ok_goesOn F19 
  have C19 : Cal l.prog w K mg base "goes_on" 1 ["row", "first", "mark"] spGoesOn f19 _ := ⟨G19, m19, k19, b19⟩
  have C0 : Cal l.prog w K mg base "joined" 3 ["rows"] (spJoined L) f0 _ := ⟨ok_joined l0 c0 hC hB N.sorted G19 m19 k19 b19, m0, k0, b0⟩
  have G20 : FnOk l.prog w K mg base CX0 3 f20 _ ["rows", "first", "last"] (spAround L) := ok_around F20 N.min N.max
  have C20 : Cal l.prog w K mg base "around" 3 ["rows", "first", "last"] (spAround L) f20 _ := ⟨G20, m20, k20, b20⟩
  have G21 : FnOk l.prog w K mg base CX0 4 f21 _ ["strip", "first", "last", "mark"] (spLaid L) := ok_laid F21 C0 C20
  have C21 : Cal l.prog w K mg base "laid" 4 ["strip", "first", "last", "mark"] (spLaid L) f21 _ := ⟨G21, m21, k21, b21⟩
  have G22 : FnOk l.prog w K mg base CX0 5 f22 _ ["self", "key", "first", "last", "value"] (spFind C L) := ok_find F22 N Z TB M6 C16 C8 M17 M7 M18 M10 C21
  have M22 : MC l.prog w K mg base C "find" 5 ["self", "key", "first", "last", "value"] [] [] (spFind C L) f22 _ := ⟨TB.cl, ⟨a22, i22, k22⟩, G22, b22, .nil⟩
  have G23 : FnOk l.prog w K mg base CX0 2 f23 _ ["self", "number"] (spChkNum C) := ok_chkNum F23 N TB C8
  have M23 : MC l.prog w K mg base C "check_number" 2 ["self", "number"] [] [] (spChkNum C) f23 _ := ⟨TB.cl, ⟨a23, i23, k23⟩, G23, b23, .nil⟩
  have G24 : FnOk l.prog w K mg base CX0 5 f24 _ ["self", "key"] (spKnown C L) := ok_known F24 N TB C21
  have M24 : MC l.prog w K mg base C "table_of_known" 5 ["self", "key"] [] [] (spKnown C L) f24 _ := ⟨TB.cl, ⟨a24, i24, k24⟩, G24, b24, .nil⟩
  have G25 : FnOk l.prog w K mg base CX0 6 f25 _ ["self", "number"] (spWithd C L) := ok_withd F25 TB M23 M17 M7 M18 M24
  have M25 : MC l.prog w K mg base C "withdraw" 6 ["self", "number"] [] [] (spWithd C L) f25 _ := ⟨TB.cl, ⟨a25, i25, k25⟩, G25, b25, .nil⟩
  have G26 : FnOk l.prog w K mg base CX0 7 f26 _ ["_law_book", "_law_state_here", "_law_cell_here", "_law_span"] (spDone C L) := ok_done F26 N C3 C12 C13 C14 M22 M25
  have C26 : Cal l.prog w K mg base "_law_done" 7 ["_law_book", "_law_state_here", "_law_cell_here", "_law_span"] (spDone C L) f26 _ := ⟨G26, m26, k26, b26⟩
  have G27 : FnOk l.prog w K mg base CX0 1 f27 _ ["_law_rows"] spDays := ok_days F27 
  have C27 : Cal l.prog w K mg base "_law_days" 1 ["_law_rows"] spDays f27 _ := ⟨G27, m27, k27, b27⟩
  have G28 : FnOk l.prog w K mg base CX0 2 f28 _ ["_law_state_here", "_law_before", "_law_behind"] spStep := ok_step F28 N C27
  have C28 : Cal l.prog w K mg base "_law_step_right" 2 ["_law_state_here", "_law_before", "_law_behind"] spStep f28 _ := ⟨G28, m28, k28, b28⟩
  have G29 : FnOk l.prog w K mg base CX0 1 f29 _ ["text", "signs", "most"] spHas := ok_has F29 N
  have C29 : Cal l.prog w K mg base "has_only" 1 ["text", "signs", "most"] spHas f29 _ := ⟨G29, m29, k29, b29⟩
  have G30 : FnOk l.prog w K mg base CX0 2 f30 _ ["thing"] spName := ok_name F30 N Z C29
  have C30 : Cal l.prog w K mg base "is_name" 2 ["thing"] spName f30 _ := ⟨G30, m30, k30, b30⟩
  have G31 : FnOk l.prog w K mg base CX0 3 f31 _ ["thing"] spAreKeys := ok_areKeys F31 N Z C30
  have C31 : Cal l.prog w K mg base "are_keys" 3 ["thing"] spAreKeys f31 _ := ⟨G31, m31, k31, b31⟩
  have G32 : FnOk l.prog w K mg base CX0 4 f32 _ ["self", "keys"] (spInit C) := ok_init F32 N TB C31
  have G33 : FnOk l.prog w K mg base CX0 3 f33 _ ["self", "number"] (spFound C) := ok_found F33 TB M23
  have M33 : MC l.prog w K mg base C "found" 3 ["self", "number"] [] [] (spFound C) f33 _ := ⟨TB.cl, ⟨a33, i33, k33⟩, G33, b33, .nil⟩
  have G34 : FnOk l.prog w K mg base CX0 2 f34 _ ["self", "turn"] (spDeedAt C) := ok_deedAt F34 TB M7 C8
  have M34 : MC l.prog w K mg base C "deed_at" 2 ["self", "turn"] [] [] (spDeedAt C) f34 _ := ⟨TB.cl, ⟨a34, i34, k34⟩, G34, b34, .nil⟩
  exact ok_law F35 N C1 C4 C5 C11 C26 C28 ⟨mk, a32, i32, kc⟩ G32 b32 mC Mf10 M33 M34
theorem walk {l : PySem.W.OpenLaw} {q : Program} {loose : List Str} {XP : (Str → Option Value) → Heap → Prop} {YP : World → Heap → Prop} {d dj : DefRec} {K : Params → PySem.W.Frag} {c L C : Addr} (hn : l.most = some 63) (hdf : d.params.defaults = [])
    (hY : ∀ (w : World) (h : Heap), YP w h → (K w.params).In h)
    (hrj : (PyProof.Rows.recsOf q).find? (fun e => e.name == ("joined" : Str)) = some dj) (htab : ∀ (w : World) (h : Heap), (K w.params).In h → PySem.W.tabIn (K w.params) "joined" = some (c, L)) (hnt : ∀ (w : World) (h : Heap), (K w.params).In h → PySem.W.noTabs (K w.params) = true)
    (F : ∀ (w : World) (mg : Str → Option Value) (fa : Addr) (h : Heap), (K w.params).In h → h.Ns mainGlobals mg → mg d.name = some (.ref fa) →
      ∃ fd : FuncData, (∀ (s : Shared) (u : Value), BindsTo s fd ⟨[u], []⟩ [("_law_script", u)]) ∧
        ∀ base : Heap, (K w.params).In base → base.Ns mainGlobals mg → PySem.W.CodeHd base c L → base.BuiltinsAt mg L → FnOk l.prog w (K w.params) mg base CX0 8 fa fd ["_law_script"] (spLaw (K w.params) C L)) :
    PySem.W.WalkO q loose XP YP l.row.toRowW d [] (fun f vs => PySem.call f vs) :=
  walk_ofT (n := 63) (k := 8) (x := "_law_script") (xj := "joined") (sp := fun w => spLaw (K w.params) C L) hn (by decide) hdf ⟨rfl, by decide, by decide⟩ hY hrj htab hnt F fun w H a ns hl hO hS => ⟨a, ns, rfl, .inl hO.1, hS, hl, fun _ => rfl⟩
end Mine
open PySem PySem.W PyProof.Rows
namespace PySem.W.Fast
theorem tw8326004223394519339:True:=⟨⟩
theorem tw6977909550310181858:True:=⟨⟩
theorem tw10010974014775756455:True:=⟨⟩
theorem tw8180291676426164167:True:=⟨⟩
theorem tw17664631554120071369:True:=⟨⟩
theorem tw6286890520651176507:True:=⟨⟩
theorem tw14931897812960818554:True:=⟨⟩
theorem tw17544812846596147749:True:=⟨⟩
theorem tw3858246863141642262:True:=⟨⟩
theorem tw10579533042914985757:True:=⟨⟩
theorem tw2168944578570717457:True:=⟨⟩
theorem tw1722862773979946963:True:=⟨⟩
theorem tw4213503132873407115:True:=⟨⟩
theorem tw15837462841564848910:True:=⟨⟩
theorem tw13494463796387730700:True:=⟨⟩
theorem tw9624860227361893299:True:=⟨⟩
theorem tw5904387918317673551:True:=⟨⟩
theorem tw2935701929586466460:True:=⟨⟩
theorem tw18417916325995990461:True:=⟨⟩
theorem tw13227386303314076374:True:=⟨⟩
theorem tw6347797142812684623:True:=⟨⟩
theorem tw17727603562434850485:True:=⟨⟩
theorem tw2749791990625230263:True:=⟨⟩
theorem tw9604935402510577302:True:=⟨⟩
theorem tw7839994853603913376:True:=⟨⟩
theorem tw13283701827638666821:True:=⟨⟩
theorem tw4694306079998916699:True:=⟨⟩
theorem tw13843348633721500651:True:=⟨⟩
theorem tw13717267469132229382:True:=⟨⟩
theorem tw11966619846076877786:True:=⟨⟩
theorem tw14525003094420244955:True:=⟨⟩
theorem tw4672659087148800781:True:=⟨⟩
theorem tw11871245385423508816:True:=⟨⟩
theorem tw4007195123810234400:True:=⟨⟩
theorem tw6427494490493407866:True:=⟨⟩
theorem tw16980215295860833826:True:=⟨⟩
theorem tw3981812264340096068:True:=⟨⟩
theorem tw1473489838365933389:True:=⟨⟩
theorem tw11705125565117478839:True:=⟨⟩
theorem tw15574991626300327600:True:=⟨⟩
theorem tw4168573959450700067:True:=⟨⟩
theorem tw6117411826181362495:True:=⟨⟩
theorem tw6783185309466460888:True:=⟨⟩
theorem tw13992041416921467859:True:=⟨⟩
theorem tw3276958524135972379:True:=⟨⟩
theorem tw17796740990095823201:True:=⟨⟩
theorem tw5670208866092273090:True:=⟨⟩
theorem tw10062810738554970842:True:=⟨⟩
theorem tw13607134888904957085:True:=⟨⟩
theorem tw3511240995008433476:True:=⟨⟩
theorem tw17301485705420154367:True:=⟨⟩
theorem tw2297745436512493667:True:=⟨⟩
theorem tw17313119288314518949:True:=⟨⟩
theorem tw16804638081310699402:True:=⟨⟩
theorem tw10196669533308342195:True:=⟨⟩
theorem tw7368129071022995544:True:=⟨⟩
theorem tw11087810108411203136:True:=⟨⟩
theorem tw6010413057512947834:True:=⟨⟩
theorem tw15269204420293652619:True:=⟨⟩
theorem tw151077693856113434:True:=⟨⟩
theorem tw11593115005509570669:True:=⟨⟩
theorem tw1533833294220414114:True:=⟨⟩
theorem tw2881706159777740574:True:=⟨⟩
theorem tw2009809611549750059:True:=⟨⟩
theorem tw24747168575025631:True:=⟨⟩
theorem tw10055542138734041628:True:=⟨⟩
theorem tw13348754128072323428:True:=⟨⟩
theorem tw1896258183449012963:True:=⟨⟩
theorem tw6868920967739622622:True:=⟨⟩
theorem tw12954486558076277456:True:=⟨⟩
theorem tw14964671064618550910:True:=⟨⟩
theorem tw931177339840489318:True:=⟨⟩
theorem tw1026904076710931941:True:=⟨⟩
theorem tw16912126710075640561:True:=⟨⟩
theorem tw14693874016814104103:True:=⟨⟩
theorem tw724444615357577482:True:=⟨⟩
theorem tw4561717010979327234:True:=⟨⟩
theorem tw11032044242441648433:True:=⟨⟩
theorem tw13000900007135142400:True:=⟨⟩
theorem tw3852914306424067228:True:=⟨⟩
theorem tw11169469394847484086:True:=⟨⟩
theorem tw12230437478822641256:True:=⟨⟩
theorem tw14511268258216908695:True:=⟨⟩
theorem tw7083929338920533889:True:=⟨⟩
theorem tw56807823773139818:True:=⟨⟩
theorem tw17652395846823555925:True:=⟨⟩
theorem tw156607754740275708:True:=⟨⟩
theorem tw2533452505330497399:True:=⟨⟩
theorem tw1742589679726342114:True:=⟨⟩
theorem tw9906159494907320593:True:=⟨⟩
theorem tw2889698772513350058:True:=⟨⟩
theorem tw4889371020274810432:True:=⟨⟩
theorem tw3901720303620307851:True:=⟨⟩
theorem tw8844336917808015894:True:=⟨⟩
theorem tw18162025406187240908:True:=⟨⟩
theorem tw15289821333272685481:True:=⟨⟩
theorem tw18099972317378655372:True:=⟨⟩
theorem tw3096897349706582791:True:=⟨⟩
theorem tw17220036365783348061:True:=⟨⟩
theorem tw464268869511817858:True:=⟨⟩
theorem tw7728869366986098984:True:=⟨⟩
theorem tw15679231248409879938:True:=⟨⟩
theorem tw11907698671177270912:True:=⟨⟩
theorem tw3402402710041119506:True:=⟨⟩
theorem tw7164176313585685893:True:=⟨⟩
theorem tw6258206950853126391:True:=⟨⟩
theorem tw8863253221160387051:True:=⟨⟩
theorem tw217390448621559906:True:=⟨⟩
theorem tw15494656161115853387:True:=⟨⟩
theorem tw11146128916733138740:True:=⟨⟩
theorem tw2523773027001071650:True:=⟨⟩
theorem tw4646703329499662288:True:=⟨⟩
theorem tw10960340726400899660:True:=⟨⟩
theorem tw2042015706046044111:True:=⟨⟩
theorem tw15900804896546497546:True:=⟨⟩
theorem tw10519590045168624476:True:=⟨⟩
theorem tw15136683970039822417:True:=⟨⟩
theorem tw7896299051895078171:True:=⟨⟩
theorem tw4355541281932119646:True:=⟨⟩
theorem tw8519795383104742537:True:=⟨⟩
theorem tw14292221020142349722:True:=⟨⟩
theorem tw1558344083764986355:True:=⟨⟩
theorem tw12716783218427657883:True:=⟨⟩
theorem tw13426169234331600837:True:=⟨⟩
theorem tw2987973452077247264:True:=⟨⟩
theorem tw8786813797244294741:True:=⟨⟩
theorem tw7718093637712293458:True:=⟨⟩
theorem tw18335522259003069122:True:=⟨⟩
theorem tw1017922979415358700:True:=⟨⟩
theorem tw1173838145954698403:True:=⟨⟩
theorem tw312871757100508111:True:=⟨⟩
theorem tw9738248039300389836:True:=⟨⟩
theorem tw3864148539969782863:True:=⟨⟩
theorem tw815304433168658183:True:=⟨⟩
theorem tw15063287317791330411:True:=⟨⟩
theorem tw9967622364331020873:True:=⟨⟩
theorem tw5775001048658049575:True:=⟨⟩
theorem tw2905814075481547416:True:=⟨⟩
theorem tw6733135012241660096:True:=⟨⟩
theorem tw10726664540667469942:True:=⟨⟩
theorem tw12838673813662565143:True:=⟨⟩
theorem tw11144291934152625372:True:=⟨⟩
theorem tw10840895212887781398:True:=⟨⟩
theorem tw12836687862554466582:True:=⟨⟩
theorem tw9398251245057984477:True:=⟨⟩
theorem tw12367311042233541788:True:=⟨⟩
theorem tw17808514582599222450:True:=⟨⟩
theorem tw677194944382796486:True:=⟨⟩
theorem tw443048593273264967:True:=⟨⟩
theorem tw14781866828937960904:True:=⟨⟩
theorem tw4066601023800425548:True:=⟨⟩
theorem tw14831785812132607189:True:=⟨⟩
theorem tw17747109930952883389:True:=⟨⟩
theorem tw5415296415826901215:True:=⟨⟩
theorem tw17130516692992080869:True:=⟨⟩
theorem tw10320953243654737926:True:=⟨⟩
theorem tw18264826027601582686:True:=⟨⟩
theorem tw11488887113982282306:True:=⟨⟩
theorem tw6209084158213974516:True:=⟨⟩
theorem tw15582732749374561479:True:=⟨⟩
theorem tw13847313783412352090:True:=⟨⟩
theorem tw12877697177712081884:True:=⟨⟩
theorem tw1591607223436824700:True:=⟨⟩
theorem tw458723515007565070:True:=⟨⟩
theorem tw10909719272436604160:True:=⟨⟩
theorem tw2156071661576134114:True:=⟨⟩
theorem tw14406213997606243605:True:=⟨⟩
theorem tw6741686852011262421:True:=⟨⟩
theorem tw1762244217908442613:True:=⟨⟩
theorem tw7767446123368570369:True:=⟨⟩
theorem tw14824720568747198804:True:=⟨⟩
theorem tw8883105528018034818:True:=⟨⟩
theorem tw3111092101833341614:True:=⟨⟩
theorem tw506839256096535754:True:=⟨⟩
theorem tw18300472569059734061:True:=⟨⟩
theorem tw15093222972367019657:True:=⟨⟩
theorem tw9456876400707770441:True:=⟨⟩
theorem tw17800406507908147806:True:=⟨⟩
theorem tw3533051634801199821:True:=⟨⟩
theorem tw12723622972134207832:True:=⟨⟩
theorem tw6797734829770285023:True:=⟨⟩
theorem tw12004625342245976522:True:=⟨⟩
theorem tw5283194054717444414:True:=⟨⟩
theorem tw3642074221779602434:True:=⟨⟩
theorem tw336321684640143919:True:=⟨⟩
theorem tw15070207367126981874:True:=⟨⟩
theorem tw11385039955389976320:True:=⟨⟩
theorem tw7233578149295655174:True:=⟨⟩
theorem tw4115518567830752086:True:=⟨⟩
theorem tw8668739585765763665:True:=⟨⟩
theorem tw2272718526957241001:True:=⟨⟩
theorem tw11684313817609951018:True:=⟨⟩
theorem tw18066319966222282583:True:=⟨⟩
theorem tw15836699489402365475:True:=⟨⟩
theorem tw17106211841470034950:True:=⟨⟩
theorem tw5594999277832265248:True:=⟨⟩
theorem tw14776050582572108865:True:=⟨⟩
theorem tw7347612599966043579:True:=⟨⟩
theorem tw13404330352339925123:True:=⟨⟩
theorem tw9502461709866692431:True:=⟨⟩
theorem tw10739694193686907781:True:=⟨⟩
theorem tw15726179268592479810:True:=⟨⟩
theorem tw16459562377773802620:True:=⟨⟩
theorem tw11001928856364240898:True:=⟨⟩
theorem tw4144441040781422080:True:=⟨⟩
theorem tw11844111877701136832:True:=⟨⟩
theorem tw5683015521859630410:True:=⟨⟩
theorem tw2367360116384896513:True:=⟨⟩
theorem tw1543059293818002964:True:=⟨⟩
theorem tw6048686989768814418:True:=⟨⟩
theorem tw5999360712369370156:True:=⟨⟩
theorem tw642757119734415526:True:=⟨⟩
theorem tw9075745543832783756:True:=⟨⟩
theorem tw3073056852653805707:True:=⟨⟩
theorem tw2007794603557098885:True:=⟨⟩
theorem tw7757596221905828152:True:=⟨⟩
theorem tw15021878553312191724:True:=⟨⟩
theorem tw14244628045526546717:True:=⟨⟩
theorem tw15390984934094536605:True:=⟨⟩
theorem tw11195117524075735947:True:=⟨⟩
theorem tw16017779244083189676:True:=⟨⟩
theorem tw754494113875944002:True:=⟨⟩
theorem tw6999785520876400064:True:=⟨⟩
theorem tw13177915869512838603:True:=⟨⟩
theorem tw9615138263345514307:True:=⟨⟩
theorem tw4695778370586023756:True:=⟨⟩
theorem tw4679603970899393907:True:=⟨⟩
theorem tw2665183692686483446:True:=⟨⟩
theorem tw1846037780449645273:True:=⟨⟩
theorem tw6478482685331551145:True:=⟨⟩
theorem tw4457789804344328799:True:=⟨⟩
theorem tw11130850648819668908:True:=⟨⟩
theorem tw12077217966019475351:True:=⟨⟩
theorem tw3879445423304862526:True:=⟨⟩
end PySem.W.Fast
set_option maxRecDepth 100000 in
set_option maxHeartbeats 0 in
theorem PySem.Challenge.cw_unsaybook_k15_whole_nothing_is_wiped_out_holds : PySem.Challenge.rw_unsaybook_k15_whole_nothing_is_wiped_out.Holds := by
  w_on; o_law; k_head; (case hw => w_witness2)
  k_fill
  refine' Mine.walk (l := PySem.Challenge.rw_unsaybook_k15_whole_nothing_is_wiped_out) (L := 174) rfl rfl (fun w h Y => PySem.W.km_in_of Y) ?hrj ?htab ?hnt ?F
  case hrj => exact rfl
  case F =>
    intro w mg fa h KX G hmg
    refine' Mine.all_mk KX G hmg ?aC ?a0 ?l0 ?c0 ?k0 ?a1 ?l1 ?c1 ?k1 ?a2 ?l2 ?c2 ?k2 ?a3 ?l3 ?c3 ?k3 ?a4 ?l4 ?c4 ?k4 ?a5 ?l5 ?c5 ?k5 ?a6 ?i6 ?l6 ?c6 ?k6 ?a7 ?i7 ?l7 ?c7 ?k7 ?a8 ?l8 ?c8 ?k8 ?a9 ?i9 ?l9 ?c9 ?k9 ?a10 ?i10 ?l10 ?c10 ?k10 ?e10 ?a11 ?l11 ?c11 ?k11 ?a12 ?l12 ?c12 ?k12 ?a13 ?l13 ?c13 ?k13 ?a14 ?l14 ?c14 ?k14 ?a15 ?l15 ?c15 ?k15 ?a16 ?l16 ?c16 ?k16 ?a17 ?i17 ?l17 ?c17 ?k17 ?a18 ?i18 ?l18 ?c18 ?k18 ?a19 ?l19 ?c19 ?k19 ?a20 ?l20 ?c20 ?k20 ?a21 ?l21 ?c21 ?k21 ?a22 ?i22 ?l22 ?c22 ?k22 ?a23 ?i23 ?l23 ?c23 ?k23 ?a24 ?i24 ?l24 ?c24 ?k24 ?a25 ?i25 ?l25 ?c25 ?k25 ?a26 ?l26 ?c26 ?k26 ?a27 ?l27 ?c27 ?k27 ?a28 ?l28 ?c28 ?k28 ?a29 ?l29 ?c29 ?k29 ?a30 ?l30 ?c30 ?k30 ?a31 ?l31 ?c31 ?k31 ?a32 ?i32 ?l32 ?c32 ?k32 ?a33 ?i33 ?l33 ?c33 ?k33 ?a34 ?i34 ?l34 ?c34 ?k34 ?a35 ?l35 ?c35 ?k35 ?pg ?hd ?po ?sa ?mk ?kc ?n1 ?n2 ?n3 ?n4 ?n5 ?q1 ?q2 ?q3 ?q4 ?q5 ?q6 ?z1 ?z2 ?z3 ?z4 ?z5 ?z6 ?z7 ?z8 ?z9 ?z10 ?z11 ?z12 ?z13 ?z14 ?z15
    (case aC => k_is)
    (case a0 => k_is)
    (case l0 => k_is)
    (case c0 => k_is)
    (case k0 => k_is)
    (case a1 => k_is)
    (case l1 => k_is)
    (case c1 => k_is)
    (case k1 => k_is)
    (case a2 => k_is)
    (case l2 => k_is)
    (case c2 => k_is)
    (case k2 => k_is)
    (case a3 => k_is)
    (case l3 => k_is)
    (case c3 => k_is)
    (case k3 => k_is)
    (case a4 => k_is)
    (case l4 => k_is)
    (case c4 => k_is)
    (case k4 => k_is)
    (case a5 => k_is)
    (case l5 => k_is)
    (case c5 => k_is)
    (case k5 => k_is)
    (case a6 => k_is)
    (case i6 => k_is)
    (case l6 => k_is)
    (case c6 => k_is)
    (case k6 => k_is)
    (case a7 => k_is)
    (case i7 => k_is)
    (case l7 => k_is)
    (case c7 => k_is)
    (case k7 => k_is)
    (case a8 => k_is)
    (case l8 => k_is)
    (case c8 => k_is)
    (case k8 => k_is)
    (case a9 => k_is)
    (case i9 => k_is)
    (case l9 => k_is)
    (case c9 => k_is)
    (case k9 => k_is)
    (case a10 => k_is)
    (case i10 => k_is)
    (case l10 => k_is)
    (case c10 => k_is)
    (case k10 => k_is)
    (case e10 => k_is)
    (case a11 => k_is)
    (case l11 => k_is)
    (case c11 => k_is)
    (case k11 => k_is)
    (case a12 => k_is)
    (case l12 => k_is)
    (case c12 => k_is)
    (case k12 => k_is)
    (case a13 => k_is)
    (case l13 => k_is)
    (case c13 => k_is)
    (case k13 => k_is)
    (case a14 => k_is)
    (case l14 => k_is)
    (case c14 => k_is)
    (case k14 => k_is)
    (case a15 => k_is)
    (case l15 => k_is)
    (case c15 => k_is)
    (case k15 => k_is)
    (case a16 => k_is)
    (case l16 => k_is)
    (case c16 => k_is)
    (case k16 => k_is)
    (case a17 => k_is)
    (case i17 => k_is)
    (case l17 => k_is)
    (case c17 => k_is)
    (case k17 => k_is)
    (case a18 => k_is)
    (case i18 => k_is)
    (case l18 => k_is)
    (case c18 => k_is)
    (case k18 => k_is)
    (case a19 => k_is)
    (case l19 => k_is)
    (case c19 => k_is)
    (case k19 => k_is)
    (case a20 => k_is)
    (case l20 => k_is)
    (case c20 => k_is)
    (case k20 => k_is)
    (case a21 => k_is)
    (case l21 => k_is)
    (case c21 => k_is)
    (case k21 => k_is)
    (case a22 => k_is)
    (case i22 => k_is)
    (case l22 => k_is)
    (case c22 => k_is)
    (case k22 => k_is)
    (case a23 => k_is)
    (case i23 => k_is)
    (case l23 => k_is)
    (case c23 => k_is)
    (case k23 => k_is)
    (case a24 => k_is)
    (case i24 => k_is)
    (case l24 => k_is)
    (case c24 => k_is)
    (case k24 => k_is)
    (case a25 => k_is)
    (case i25 => k_is)
    (case l25 => k_is)
    (case c25 => k_is)
    (case k25 => k_is)
    (case a26 => k_is)
    (case l26 => k_is)
    (case c26 => k_is)
    (case k26 => k_is)
    (case a27 => k_is)
    (case l27 => k_is)
    (case c27 => k_is)
    (case k27 => k_is)
    (case a28 => k_is)
    (case l28 => k_is)
    (case c28 => k_is)
    (case k28 => k_is)
    (case a29 => k_is)
    (case l29 => k_is)
    (case c29 => k_is)
    (case k29 => k_is)
    (case a30 => k_is)
    (case l30 => k_is)
    (case c30 => k_is)
    (case k30 => k_is)
    (case a31 => k_is)
    (case l31 => k_is)
    (case c31 => k_is)
    (case k31 => k_is)
    (case a32 => k_is)
    (case i32 => k_is)
    (case l32 => k_is)
    (case c32 => k_is)
    (case k32 => k_is)
    (case a33 => k_is)
    (case i33 => k_is)
    (case l33 => k_is)
    (case c33 => k_is)
    (case k33 => k_is)
    (case a34 => k_is)
    (case i34 => k_is)
    (case l34 => k_is)
    (case c34 => k_is)
    (case k34 => k_is)
    (case a35 => k_is)
    (case l35 => k_is)
    (case c35 => k_is)
    (case k35 => k_is)
    (case pg => k_is)
    (case hd => k_is)
    (case po => k_is)
    (case sa => k_is)
    (case mk => k_is)
    (case kc => k_is)
    (case n1 => k_is)
    (case n2 => k_is)
    (case n3 => k_is)
    (case n4 => k_is)
    (case n5 => k_is)
    (case q1 => k_is)
    (case q2 => k_is)
    (case q3 => k_is)
    (case q4 => k_is)
    (case q5 => k_is)
    (case q6 => k_is)
    (case z1 => k_is)
    (case z2 => k_is)
    (case z3 => k_is)
    (case z4 => k_is)
    (case z5 => k_is)
    (case z6 => k_is)
    (case z7 => k_is)
    (case z8 => k_is)
    (case z9 => k_is)
    (case z10 => k_is)
    (case z11 => k_is)
    (case z12 => k_is)
    (case z13 => k_is)
    (case z14 => k_is)
    (case z15 => k_is)
  case htab => intro w h KX; kernel_rfl
  case hnt => intro w h KX; kernel_rfl
