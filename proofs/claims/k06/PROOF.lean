import PyProof.Rows.All
import Wide.All
import OpenK.AllK
import Wide.FinOn
import Lean
import PyProof.EqAt
import PyProof.EqKinds
import PyProof.TupleCall
import PySem.Challenge.RW_unsaybook_k06_refusals_apart
set_option Elab.async false
set_option linter.all false
set_option maxRecDepth 100000
/-! THE HAND LAYER, for ints, bools, texts, own classes, LISTS and tuples (index, slices, in, append, pop ..), calls, loops. Paste it whole ahead of your own text; what your proof does not reach may be deleted. -/
namespace L2
open PySem PySem.Spec PyProof.Rows

/-- a key: an int or a str -/
abbrev Key := Sum Int Str
def keyIs : Key → Value → Bool
  | .inl k, v => Value.isInt k v
  | .inr x, v => Value.isStrOf x v
def keyH (w : World) : Key → Int
  | .inl k => hashInt k
  | .inr x => hashStr w x
theorem keyIs_shape : ∀ {k : Key} {v : Value}, keyIs k v = true → (∃ i t, k = Sum.inl i ∧ v = Value.int i t) ∨ (∃ x t, k = Sum.inr x ∧ v = Value.str x t)
  | .inl i, v, h => by
    obtain ⟨t, e⟩ := Value.isInt_shape (k := i) (v := v) h
    exact .inl ⟨i, t, rfl, e⟩
  | .inr x, v, h => by
    obtain ⟨t, e⟩ := Value.isStrOf_shape (x := x) (v := v) h
    exact .inr ⟨x, t, rfl, e⟩
theorem keyIs_int (i : Int) (t : Tok) : keyIs (.inl i) (.int i t) = true := by simp [keyIs, Value.isInt]
theorem keyIs_str (x : Str) (t : Tok) : keyIs (.inr x) (.str x t) = true := by simp [keyIs, Value.isStrOf]
theorem key_ll (a b : Int) : decide ((Sum.inl a : Key) = Sum.inl b) = (a == b) := by
  by_cases e : a = b
  · subst e; simp
  · have h : ¬ (Sum.inl a : Key) = Sum.inl b := fun q => e (Sum.inl.inj q)
    rw [decide_eq_false h]
    exact (beq_eq_false_iff_ne.mpr e).symm
theorem key_rr (a b : Str) : decide ((Sum.inr a : Key) = Sum.inr b) = decide (a = b) := by
  by_cases e : a = b
  · subst e; simp
  · have h : ¬ (Sum.inr a : Key) = Sum.inr b := fun q => e (Sum.inr.inj q)
    rw [decide_eq_false h, decide_eq_false e]
theorem key_lr (a : Int) (b : Str) : decide ((Sum.inl a : Key) = Sum.inr b) = false := decide_eq_false (fun q => nomatch q)
theorem key_rl (a : Str) (b : Int) : decide ((Sum.inr a : Key) = Sum.inl b) = false := decide_eq_false (fun q => nomatch q)

def mixKind (prog : Program) (w : World) : PySem.KeyKind prog w Key where
  is := keyIs
  hash := keyH w
  inj := fun v a b ha hb => by
    rcases keyIs_shape ha with ⟨i, t, rfl, rfl⟩ | ⟨x, t, rfl, rfl⟩
    · rcases keyIs_shape hb with ⟨j, u, rfl, e⟩ | ⟨y, u, rfl, e⟩
      · injection e with e1 _; rw [e1]
      · exact nomatch e
    · rcases keyIs_shape hb with ⟨j, u, rfl, e⟩ | ⟨y, u, rfl, e⟩
      · exact nomatch e
      · injection e with e1 _; rw [e1]
  byValue := fun k v h => by
    rcases keyIs_shape h with ⟨i, t, rfl, rfl⟩ | ⟨x, t, rfl, rfl⟩ <;> rfl
  pyHash := fun hv h => by
    rcases keyIs_shape hv with ⟨i, t, rfl, rfl⟩ | ⟨x, t, rfl, rfl⟩
    · exact wpAny_pyHash_int h
    · exact wpAny_pyHash_str h
  eqBool := fun hu hv h => by
    rcases keyIs_shape hu with ⟨i, t, rfl, rfl⟩ | ⟨x, t, rfl, rfl⟩
    · rcases keyIs_shape hv with ⟨j, u, rfl, rfl⟩ | ⟨y, u, rfl, rfl⟩
      · rw [key_ll] at h; exact wpAny_eqBool_int h
      · rw [key_lr] at h; exact SeqAt.EqAt.int_str i t y u _ _ _ _ h
    · rcases keyIs_shape hv with ⟨j, u, rfl, rfl⟩ | ⟨y, u, rfl, rfl⟩
      · rw [key_rl] at h; exact SeqAt.EqAt.str_int x t j u _ _ _ _ h
      · rw [key_rr] at h; exact wpAny_eqBool_str h
  «strs» := fun k x t v h => by
    rcases keyIs_shape h with ⟨i, u, rfl, e⟩ | ⟨y, u, rfl, e⟩
    · exact nomatch e
    · injection e with e1 _
      subst e1
      cases v <;> rfl

theorem mixKind_is (prog : Program) (w : World) (k : Key) (v : Value) : (mixKind prog w).is k v = keyIs k v := rfl
theorem mixKind_int (prog : Program) (w : World) (i : Int) (t : Tok) : (mixKind prog w).is (.inl i) (.int i t) = true := keyIs_int i t
theorem mixKind_str (prog : Program) (w : World) (x : Str) (t : Tok) : (mixKind prog w).is (.inr x) (.str x t) = true := keyIs_str x t
end L2

namespace L2
open PySem PySem.Spec PyProof.Rows

/-- a value, without the heap -/
inductive V where
  | non | bl (b : Bool) | int (i : Int) | str (x : Str) | byt (b : Array UInt8) | flt (b : UInt64) | ref (a : Addr) | ty (n : String)
  deriving DecidableEq

def RelV : V → Value → Prop
  | .non, u => u = Value.none
  | .bl b, u => u = Value.bool b
  | .int i, u => ∃ t, u = Value.int i t
  | .str x, u => ∃ t, u = Value.str x t
  | .byt b, u => ∃ t, u = Value.bytes b t
  | .flt b, u => ∃ t, u = Value.float b t
  | .ref a, u => u = Value.ref a
  | .ty n, u => u = Value.type n

abbrev Vals : List V → List Value → Prop := Paired RelV
theorem Vals.length {xs : List V} {us : List Value} (r : Vals xs us) : xs.length = us.length := Paired.length r
theorem Vals.get : ∀ {xs : List V} {us : List Value} {i : Nat} {x : V}, Vals xs us → xs[i]? = some x → ∃ u, us[i]? = some u ∧ RelV x u
  | _, _, _, _, .nil, e => by simp at e
  | _, _, 0, _, .cons r _, e => by simp at e; subst e; exact ⟨_, rfl, r⟩
  | _, _, i + 1, x, .cons _ t, e => by
    obtain ⟨u, h1, h2⟩ := Vals.get (i := i) (x := x) t (by simpa using e)
    exact ⟨u, by simpa using h1, h2⟩
theorem Vals.set {x : V} {u : Value} (r : RelV x u) : ∀ {xs : List V} {us : List Value} (i : Nat), Vals xs us → Vals (xs.set i x) (us.set i u)
  | _, _, _, .nil => .nil
  | _, _, 0, .cons _ t => .cons r t
  | _, _, i + 1, .cons q t => .cons q (Vals.set r i t)
theorem Vals.append : ∀ {xs ys : List V} {us ws : List Value}, Vals xs us → Vals ys ws → Vals (xs ++ ys) (us ++ ws)
  | _, _, _, _, .nil, s => s
  | _, _, _, _, .cons r t, s => .cons r (Vals.append t s)
theorem Vals.take : ∀ {xs : List V} {us : List Value} (n : Nat), Vals xs us → Vals (xs.take n) (us.take n)
  | _, _, 0, _ => .nil
  | _, _, _ + 1, .nil => .nil
  | _, _, n + 1, .cons r t => .cons r (Vals.take n t)
theorem Vals.drop : ∀ {xs : List V} {us : List Value} (n : Nat), Vals xs us → Vals (xs.drop n) (us.drop n)
  | _, _, 0, r => r
  | _, _, _ + 1, .nil => .nil
  | _, _, n + 1, .cons _ t => Vals.drop n t
theorem Vals.none_of : ∀ {xs : List V} {us : List Value} {i : Nat}, Vals xs us → xs[i]? = none → us[i]? = none := fun {xs us i} r e => by
  have h1 := r.length
  have h2 : xs.length ≤ i := List.getElem?_eq_none_iff.mp e
  exact List.getElem?_eq_none_iff.mpr (by omega)

def RelO : Option V → Option Value → Prop
  | some v, some u => RelV v u
  | none, none => True
  | _, _ => False
def KV {κ : Type} : List (κ × V) → List (κ × Value) → Prop := Paired fun (p : κ × V) (q : κ × Value) => p.1 = q.1 ∧ RelV p.2 q.2

/-- a key of a dict (00_mix): an int or a text -/
def kV : Key → V
  | .inl i => .int i
  | .inr x => .str x

/-- what stands at a tracked address -/
inductive HO where
  /-- a list -/
  | lst (xs : List V)
  /-- a tuple (never changes) -/
  | tup (xs : List V)
  /-- a dict whose keys are ints and texts; one whose keys are tuples of ints and texts (the empty one is both) -/
  | dK (kvs : List (Key × V)) | dT (kvs : List (List Key × V))
  /-- a set of ints: its members, its size -/
  | set (S : Int → Bool) (n : Nat)
  /-- an instance of the class at C, its dict at dx, its attributes -/
  | ins (C dx : Addr) (fs : List (Str × V))
  /-- the dict of the instance at x -/
  | own (x : Addr)
  /-- the dict of an exception -/
  | xd (fs : List (Str × V))
  /-- a bound method, f of x -/
  | met (f x : Addr)
  /-- a range object lo, lo + 1, .. below hi -/
  | rng (lo hi : Int)
  /-- a thing that is known to the object (the script; a dict while a loop walks it): read, never written while it is so -/
  | frz (o : Obj) (u : HO)
  /-- a code object's table -/
  | tbl (ps : Array Value)
  /-- any other thing, by what is true of its one object (a def of one's own: SetO a S n := HO.ext fun h => ..) -/
  | ext (φ : Heap → Prop)

abbrev Hp := Addr → Option HO
def upd (H : Hp) (a : Addr) (o : HO) : Hp := fun b => if b = a then some o else H b
theorem upd_same {H : Hp} {a : Addr} {o : HO} : upd H a o a = some o := by unfold upd; rw [if_pos rfl]
theorem upd_ne {H : Hp} {a b : Addr} {o : HO} (h : b ≠ a) : upd H a o b = H b := by unfold upd; rw [if_neg h]
theorem upd_upd {H : Hp} {a : Addr} {o u : HO} : upd (upd H a o) a u = upd H a u := by
  funext b; unfold upd; split <;> rfl
/-- two objects of different content stand apart -/
theorem ne_of {H : Hp} {a b : Addr} {o u : HO} (h : H a = some o) (h' : H b = some u) (d : o ≠ u) : a ≠ b := by
  intro e; subst e; rw [h] at h'; exact d (Option.some.inj h')
theorem ne_of_none {H : Hp} {a b : Addr} {o : HO} (h : H a = some o) (h' : H b = none) : a ≠ b := by
  intro e; subst e; rw [h] at h'; cases h'

section
variable (P : Program) (w : World)
def ObjOk (H : Hp) (h : Heap) (a : Addr) : HO → Prop
  | .lst xs => xs.length ≤ sizeLine ∧ ∃ (its : List Value) (n : Nat), Vals xs its ∧ h.get? a = some { cls := .type "list", data := .seq its.toArray n }
  | .tup xs => xs.length ≤ sizeLine ∧ ∃ its : List Value, Vals xs its ∧ IsTup h a its.toArray
  | .dK kvs => kvs.length ≤ sizeLine ∧ (a == sysModules) = false ∧ ∃ vs, KV kvs vs ∧ h.DictOf (mixKind P w) a vs
  | .dT kvs => kvs.length ≤ sizeLine ∧ (a == sysModules) = false ∧ ∃ xs : List (List Key × Addr × Value),
      Paired (fun (p : List Key × V) (q : List Key × Addr × Value) => p.1 = q.1 ∧ H q.2.1 = some (.tup (p.1.map kV)) ∧ RelV p.2 q.2.2) kvs xs ∧
      ∃ o es ep, h.get? a = some o ∧ o.ExactDict ∧ o.data = .dict es ep ∧ es.toList = xs.map (entryOfKey (tupleKind (mixKind P w))) ∧ (xs.map (·.1)).Nodup
  | .set S n => h.SetOf (intKind P w) a S n
  | .ins C dx fs => H dx = some (.own a) ∧ fs.length ≤ 1000 ∧ dx ≠ a ∧ h.get? a = some (PySem.W.instObj C dx) ∧
      ∃ mA, h.Ns1 dx mA ∧ (∀ f, RelO (fs.lookup f) (mA f)) ∧ PySem.Within mA (fs.map (·.1))
  | .own _ => ∃ o, h.get? a = some o
  | .xd fs => ∃ mA, h.Ns1 a mA ∧ ∀ f, RelO (fs.lookup f) (mA f)
  | .rng lo hi => ∃ t u v, h.get? a = some { cls := .type "range", data := .fields #[.int lo t, .int hi u, .int 1 v] }
  | .frz o u => h.get? a = some o ∧ ObjOk H h a u
  | .tbl ps => h.get? a = some { cls := .none, data := .fields ps }
  | .met f x => h.get? a = some (PySem.W.methodObj (.ref f) (.ref x))
  | .ext φ => φ h ∧ (∃ o, h.get? a = some o) ∧ ∀ h1 h2 : Heap, φ h1 → (∀ o, h1.get? a = some o → h2.get? a = some o) → φ h2
/-- the abstract heap is held -/
def HOk (H : Hp) (h : Heap) : Prop := ∀ a o, H a = some o → ObjOk P w H h a o
end

section
variable {P : Program} {w : World} {H H' : Hp} {h h' : Heap} {a : Addr} {o : HO}
theorem ObjOk.lt (x : ObjOk P w H h a o) : a < h.objs.size := by
  cases o with
  | lst xs => obtain ⟨_, _, _, _, e⟩ := x; exact Heap.lt_size e
  | tup xs => obtain ⟨_, _, _, p⟩ := x; exact p.lt
  | dK kvs => obtain ⟨_, _, _, _, o, _, _, e, _⟩ := x; exact Heap.lt_size e
  | dT kvs => obtain ⟨_, _, _, _, o, _, _, e, _⟩ := x; exact Heap.lt_size e
  | set S n => obtain ⟨o, _, _, _, e, _⟩ := x; exact Heap.lt_size e
  | ins C dx fs => obtain ⟨_, _, _, e, _⟩ := x; exact Heap.lt_size e
  | own y => obtain ⟨_, e⟩ := x; exact Heap.lt_size e
  | xd fs => obtain ⟨_, ⟨_, _, _, e, _⟩, _⟩ := x; exact Heap.lt_size e
  | rng lo hi => obtain ⟨_, _, _, e⟩ := x; exact Heap.lt_size e
  | frz ob u => obtain ⟨e, _⟩ := x; exact Heap.lt_size e
  | tbl ps => exact Heap.lt_size (show h.get? a = some _ from x)
  | met f y => exact Heap.lt_size (show h.get? a = some _ from x)
  | ext φ => obtain ⟨_, ⟨_, e⟩, _⟩ := x; exact Heap.lt_size e
theorem Paired.mapP {α β : Type} {F G : α → β → Prop} : ∀ {l₁ : List α} {l₂ : List β}, Paired F l₁ l₂ → (∀ a b, F a b → G a b) → Paired G l₁ l₂
  | _, _, .nil, _ => .nil
  | _, _, .cons r t, f => .cons (f _ _ r) (Paired.mapP t f)
theorem Paired.imp' {α β : Type} {F G : α → β → Prop} (f : ∀ a b, F a b → G a b) {l₁ : List α} {l₂ : List β} (r : Paired F l₁ l₂) : Paired G l₁ l₂ := Paired.mapP r f
/-- what an object's description leans on: its own object, its own dict, the tuples -/
theorem ObjOk.stay (x : ObjOk P w H h a o) (k : ∀ b u, (b = a ∨ H b = some (.own a)) → h.get? b = some u → h'.get? b = some u)
    (ho : ∀ b, H b = some (.own a) → H' b = some (.own a)) (ht : ∀ b xs, H b = some (.tup xs) → H' b = some (.tup xs)) : ObjOk P w H' h' a o := by
  induction o with
  | lst xs => obtain ⟨z, its, n, r, e⟩ := x; exact ⟨z, its, n, r, k _ _ (.inl rfl) e⟩
  | tup xs => obtain ⟨z, its, r, ob, e, c⟩ := x; exact ⟨z, its, r, ob, k _ _ (.inl rfl) e, c⟩
  | dK kvs => obtain ⟨z, y, vs, r, ob, es, ep, e, c⟩ := x; exact ⟨z, y, vs, r, ob, es, ep, k _ _ (.inl rfl) e, c⟩
  | dT kvs =>
    obtain ⟨z, y, xs, r, ob, es, ep, e, c⟩ := x
    exact ⟨z, y, xs, Paired.mapP r fun p q z => ⟨z.1, ht _ _ z.2.1, z.2.2⟩, ob, es, ep, k _ _ (.inl rfl) e, c⟩
  | set S n => obtain ⟨ob, es, ep, t, e, c⟩ := x; exact ⟨ob, es, ep, t, k _ _ (.inl rfl) e, c⟩
  | ins C dx fs =>
    obtain ⟨d, z, ne, e, mA, ⟨od, es, ep, e2, c⟩, r⟩ := x
    exact ⟨ho _ d, z, ne, k _ _ (.inl rfl) e, mA, ⟨od, es, ep, k _ _ (.inr d) e2, c⟩, r⟩
  | own y => obtain ⟨ob, e⟩ := x; exact ⟨ob, k _ _ (.inl rfl) e⟩
  | xd fs => obtain ⟨mA, ⟨od, es, ep, e, c⟩, r⟩ := x; exact ⟨mA, ⟨od, es, ep, k _ _ (.inl rfl) e, c⟩, r⟩
  | rng lo hi => obtain ⟨t, u, v, e⟩ := x; exact ⟨t, u, v, k _ _ (.inl rfl) e⟩
  | frz ob u ih => obtain ⟨e, q⟩ := x; exact ⟨k _ _ (.inl rfl) e, ih q⟩
  | tbl ps =>
    have e : h.get? a = some { cls := .none, data := .fields ps } := x
    show h'.get? a = some { cls := .none, data := .fields ps }
    exact k a _ (.inl rfl) e
  | met f y =>
    have e : h.get? a = some (PySem.W.methodObj (.ref f) (.ref y)) := x
    show h'.get? a = some (PySem.W.methodObj (.ref f) (.ref y))
    exact k a _ (.inl rfl) e
  | ext φ => obtain ⟨p, ⟨o, e⟩, st⟩ := x; exact ⟨st _ _ p fun o q => k _ _ (.inl rfl) q, ⟨o, k _ _ (.inl rfl) e⟩, st⟩
theorem HOk.lt (x : HOk P w H h) (e : H a = some o) : a < h.objs.size := (x a o e).lt
theorem HOk.fresh (x : HOk P w H h) (e : h.objs.size ≤ a) : H a = none := by
  cases q : H a with
  | none => rfl
  | some u => exact absurd (Nat.lt_of_lt_of_le (x.lt q) e) (Nat.lt_irrefl _)
/-- every object of the heap is kept -/
theorem HOk.kept (x : HOk P w H h) (k : ∀ b u, h.get? b = some u → h'.get? b = some u) : HOk P w H h' := fun a o e =>
  (x a o e).stay (fun b u _ q => k b u q) (fun _ q => q) fun _ _ q => q
/-- a new object is laid and tracked -/
theorem HOk.laid (x : HOk P w H h) (k : ∀ b u, h.get? b = some u → h'.get? b = some u) (hp : h.objs.size ≤ a) (new : ObjOk P w (upd H a o) h' a o) : HOk P w (upd H a o) h' := fun b u e => by
  have hn := x.fresh hp
  by_cases hb : b = a
  · subst hb; rw [upd_same] at e; cases e; exact new
  · rw [upd_ne hb] at e
    exact (x b u e).stay (fun c v _ q => k c v q) (fun c q => by rw [upd_ne (ne_of_none q hn)]; exact q) fun c xs q => by rw [upd_ne (ne_of_none q hn)]; exact q
end

/-- what may be read as u: it is u, or a known u -/
def Rd (H : Hp) (a : Addr) (u : HO) : Prop := H a = some u ∨ ∃ o, H a = some (.frz o u)
theorem Rd.of {H : Hp} {a : Addr} {u : HO} (h : H a = some u) : Rd H a u := .inl h
theorem Rd.ok {P : Program} {w : World} {H : Hp} {h : Heap} {a : Addr} {u : HO} (r : Rd H a u) (x : HOk P w H h) : ObjOk P w H h a u := by
  rcases r with r | ⟨o, r⟩
  · exact x a u r
  · obtain ⟨_, q⟩ := x a _ r
    exact q
/-- what may be written -/
def Mut : Option HO → Prop
  | some (.lst _) => True
  | some (.dK _) => True
  | some (.dT _) => True
  | some (.set _ _) => True
  | some (.ins _ _ _) => True
  | some (.ext _) => True
  | _ => False
section
variable {P : Program} {w : World} {H : Hp} {h h' : Heap} {x e : Addr} {o' : HO}
/-- the object at e is changed: x itself, or the dict of the instance x -/
theorem HOk.write (ok : HOk P w H h) (mu : Mut (H x)) (he : e = x ∨ H e = some (.own x)) (k : ∀ b u, b ≠ e → h.get? b = some u → h'.get? b = some u) (heo : ∃ u, h'.get? e = some u)
    (new : ObjOk P w (upd H x o') h' x o') : HOk P w (upd H x o') h' := fun b u q => by
  have nown : ∀ c y, H c = some (.own y) → c ≠ x := fun c y r z => by subst z; rw [r] at mu; exact mu
  have ntup : ∀ c xs, H c = some (.tup xs) → c ≠ x := fun c xs r z => by subst z; rw [r] at mu; exact mu
  by_cases hb : b = x
  · subst hb; rw [upd_same] at q; cases q; exact new
  · rw [upd_ne hb] at q
    by_cases hbe : b = e
    · have q' : H b = some (.own x) := by
        rcases he with z | z
        · exact absurd (hbe.trans z) hb
        · rw [hbe]; exact z
      rw [q] at q'; cases q'
      obtain ⟨v, hv⟩ := heo
      exact ⟨v, by rw [hbe]; exact hv⟩
    · refine (ok b u q).stay (fun c v hc r => k c v ?_ r) (fun c r => by rw [upd_ne (nown c b r)]; exact r) fun c xs r => by rw [upd_ne (ntup c xs r)]; exact r
      rcases hc with rfl | hc
      · exact hbe
      · rintro rfl
        rcases he with z | z
        · exact nown c b hc z
        · rw [hc] at z; cases z; exact hb rfl
end

/-! ### kept unless tracked; of the frames at fs (the callers') the slots may change (an exception that passes writes there); of the records at ex (iterators) nothing is said -/
structure Un (fs ex : List Addr) (H H' : Hp) (h h' : Heap) : Prop where
  keep : ∀ b o, h.get? b = some o → H b = none → b ∉ fs → b ∉ ex → h'.get? b = some o
  slot : ∀ b o, h.get? b = some o → H b = none → b ∈ fs → b ∉ ex → ∃ sl, h'.get? b = some { o with slots := sl }
  free : ∀ b o, h.get? b = some o → H b = none → b ∉ ex → H' b = none
  there : ∀ b o, h.get? b = some o → b ∉ ex → ∃ o', h'.get? b = some o'
  tups : ∀ b xs, H b = some (.tup xs) → H' b = some (.tup xs)
  frzs : ∀ b o u, H b = some (.frz o u) → H' b = some (.frz o u)
  tbls : ∀ b ps, H b = some (.tbl ps) → ∃ more, H' b = some (.tbl (ps ++ more))
section
variable {fs fs' ex ex' : List Addr} {H H1 H2 : Hp} {h h1 h2 h' : Heap} {a x e : Addr} {o : HO}
theorem Un.any (u : Un fs ex H H1 h h1) {b : Addr} {ob : Obj} (q : h.get? b = some ob) (n : H b = none) (hx : b ∉ ex) : ∃ sl, h1.get? b = some { ob with slots := sl } := by
  by_cases hb : b ∈ fs
  · exact u.slot b ob q n hb hx
  · exact ⟨ob.slots, u.keep b ob q n hb hx⟩
theorem Un.trans (a : Un fs ex H H1 h h1) (b : Un fs ex H1 H2 h1 h2) : Un fs ex H H2 h h2 where
  keep := fun c ob q n hc hx => b.keep c ob (a.keep c ob q n hc hx) (a.free c ob q n hx) hc hx
  slot := fun c ob q n hc hx => by
    obtain ⟨sl, e1⟩ := a.slot c ob q n hc hx
    obtain ⟨sl', e2⟩ := b.slot c _ e1 (a.free c ob q n hx) hc hx
    exact ⟨sl', e2⟩
  free := fun c ob q n hx => by
    obtain ⟨o', e1⟩ := a.there c ob q hx
    exact b.free c o' e1 (a.free c ob q n hx) hx
  there := fun c ob q hx => by
    obtain ⟨o', e1⟩ := a.there c ob q hx
    exact b.there c o' e1 hx
  tups := fun c xs q => b.tups c xs (a.tups c xs q)
  frzs := fun c ob xs q => b.frzs c ob xs (a.frzs c ob xs q)
  tbls := fun c ps q => by
    obtain ⟨m1, e1⟩ := a.tbls c ps q
    obtain ⟨m2, e2⟩ := b.tbls c _ e1
    exact ⟨m1 ++ m2, by rw [e2, Array.append_assoc]⟩
theorem Un.kept (k : ∀ b u, h.get? b = some u → h'.get? b = some u) : Un fs ex H H h h' :=
  ⟨fun b ob q _ _ _ => k b ob q, fun b ob q _ _ _ => ⟨ob.slots, k b ob q⟩, fun _ _ _ n _ => n, fun b ob q _ => ⟨ob, k b ob q⟩, fun _ _ q => q, fun _ _ _ q => q, fun _ ps q => ⟨#[], by rw [q]; simp⟩⟩
theorem Un.refl : Un fs ex H H h h := Un.kept fun _ _ q => q
theorem Un.laid (k : ∀ b u, h.get? b = some u → h'.get? b = some u) (hp : h.objs.size ≤ a) (hn : H a = none) : Un fs ex H (upd H a o) h h' where
  keep := fun b u q _ _ _ => k b u q
  slot := fun b u q _ _ _ => ⟨u.slots, k b u q⟩
  free := fun b u q n _ => by rw [upd_ne (Nat.ne_of_lt (Nat.lt_of_lt_of_le (Heap.lt_size q) hp))]; exact n
  there := fun b u q _ => ⟨u, k b u q⟩
  tups := fun b xs q => by rw [upd_ne (ne_of_none q hn)]; exact q
  frzs := fun b u xs q => by rw [upd_ne (ne_of_none q hn)]; exact q
  tbls := fun b ps q => ⟨#[], by rw [upd_ne (ne_of_none q hn), q]; simp⟩
theorem Un.write (mu : Mut (H x)) (he : e = x ∨ H e = some (.own x)) (k : ∀ b u, b ≠ e → h.get? b = some u → h'.get? b = some u) (heo : ∃ u, h'.get? e = some u) : Un fs ex H (upd H x o) h h' := by
  have hx : ∀ b, H b = none → b ≠ x := fun b n z => by subst z; rw [n] at mu; exact mu
  have hb : ∀ b, H b = none → b ≠ e := fun b n z => by
    subst z
    rcases he with r | r
    · exact hx b n r
    · rw [n] at r; cases r
  have hm : ∀ b u, H b = some u → ¬ Mut (some u) → b ≠ x := fun b u q nm z => by subst z; rw [q] at mu; exact nm mu
  refine ⟨fun b u q n _ _ => k b u (hb b n) q, fun b u q n _ _ => ⟨u.slots, k b u (hb b n) q⟩, fun b u q n _ => by rw [upd_ne (hx b n)]; exact n, fun b u q _ => ?_,
    fun b xs q => by rw [upd_ne (hm b _ q fun z => z)]; exact q, fun b u xs q => by rw [upd_ne (hm b _ q fun z => z)]; exact q, fun b ps q => ⟨#[], by rw [upd_ne (hm b _ q fun z => z), q]; simp⟩⟩
  by_cases hbe : b = e
  · subst hbe; exact heo
  · exact ⟨u, k b u hbe q⟩
theorem Un.mono (u : Un fs ex H H1 h h1) (hs : ∀ b ∈ fs, b ∈ fs') (hx : ∀ b ∈ ex, b ∈ ex') : Un fs' ex' H H1 h h1 :=
  ⟨fun b ob q n hb he => u.keep b ob q n (fun z => hb (hs b z)) fun z => he (hx b z), fun _ _ q n _ he => u.any q n fun z => he (hx _ z), fun b ob q n he => u.free b ob q n fun z => he (hx b z), fun b ob q he => u.there b ob q fun z => he (hx b z), u.tups, u.frzs, u.tbls⟩
end

/-! ### the heap without what is tracked -/
def trk (h : Heap) (H : Hp) : List Addr := (List.range h.objs.size).filter fun a => (H a).isSome
def hidT (h : Heap) (H : Hp) : Heap := PySem.W.hideAll h (trk h H)
theorem hidT_size (h : Heap) (H : Hp) : (hidT h H).objs.size = h.objs.size := PySem.W.hideAll_size _ _
theorem hidT_get {h : Heap} {H : Hp} {b : Addr} {o : Obj} (e : h.get? b = some o) (n : H b = none) : (hidT h H).get? b = some o :=
  PySem.W.hideAll_get _ e fun hm => by
    have q : (H b).isSome = true := (List.mem_filter.mp hm).2
    rw [n] at q; simp at q
theorem of_hidT {h : Heap} {H : Hp} {b : Addr} {o : Obj} (e : (hidT h H).get? b = some o) : h.get? b = some o ∧ H b = none := by
  have e' : h.get? b = some o := PySem.W.of_hideAll (trk h H) e
  refine ⟨e', ?_⟩
  cases q : H b with
  | none => rfl
  | some x =>
    have hm : b ∈ trk h H := List.mem_filter.mpr ⟨List.mem_range.mpr (Heap.lt_size e'), by simp [q]⟩
    have z : (hidT h H).get? b = none := PySem.W.hideAll_none (trk h H) hm
    rw [z] at e; cases e

/-! ### OpenK's ledger, filled with every new object but one -/
def allNews (g h : Heap) (L : Addr) : List (Addr × Obj) := (List.range h.objs.size).filterMap fun a => if a = L ∨ (g.get? a).isSome = true then none else (h.get? a).map fun o => (a, o)
theorem mem_allNews {g h : Heap} {L a : Addr} {o : Obj} (h1 : a ≠ L) (h2 : g.get? a = none) (h3 : h.get? a = some o) : (a, o) ∈ allNews g h L :=
  List.mem_filterMap.mpr ⟨a, List.mem_range.mpr (Heap.lt_size h3), by simp [h1, h2, h3]⟩
theorem of_mem_allNews {g h : Heap} {L : Addr} {p : Addr × Obj} (hp : p ∈ allNews g h L) : p.1 ≠ L ∧ g.get? p.1 = none ∧ h.get? p.1 = some p.2 := by
  obtain ⟨b, _, e⟩ := List.mem_filterMap.mp hp
  split at e
  · cases e
  · rename_i hn
    cases q : h.get? b with
    | none => rw [q] at e; simp at e
    | some u =>
      rw [q] at e
      simp only [Option.map_some, Option.some.injEq] at e
      subst e
      refine ⟨fun z => hn (.inl z), ?_, q⟩
      show g.get? b = none
      cases r : g.get? b with
      | none => rfl
      | some v => exact (hn (.inr (by simp [r]))).elim
def rest (g h : Heap) (L d : Addr) : List (Addr × Obj) := (allNews g h L).filter fun p => decide (p.1 ≠ d)
theorem rest_ne {g h : Heap} {L d : Addr} : ∀ p ∈ rest g h L d, p.1 ≠ d := fun p hp => of_decide_eq_true (List.mem_filter.mp hp).2
theorem mem_rest {g h : Heap} {L d a : Addr} {o : Obj} (h1 : a ≠ L) (h2 : g.get? a = none) (h3 : h.get? a = some o) (h4 : a ≠ d) : (a, o) ∈ rest g h L d :=
  List.mem_filter.mpr ⟨mem_allNews h1 h2 h3, decide_eq_true h4⟩
theorem news_all {g h : Heap} {L : Addr} : News g L h (allNews g h L) := fun p hp => let ⟨a, b, c⟩ := of_mem_allNews hp; ⟨c, a, b⟩
theorem news_at {g h : Heap} {L d : Addr} {o : Obj} (h1 : d ≠ L) (h2 : g.get? d = none) (h3 : h.get? d = some o) : News g L h ((d, o) :: rest g h L d) := fun p hp => by
  rcases List.mem_cons.mp hp with rfl | hp
  · exact ⟨h3, h1, h2⟩
  · exact news_all p (List.mem_filter.mp hp).1
/-- behind a rule that changed d alone: all else but the frame is kept -/
theorem kept_of_news {g h h' : Heap} {L d : Addr} {m : Str → Option Value} (k : ∀ b o, g.get? b = some o → h.get? b = some o) (F : Fr g L h' m) (N : News g L h' (rest g h L d)) :
    ∀ b o, b ≠ L → b ≠ d → h.get? b = some o → h'.get? b = some o := fun b o h1 h2 e => by
  cases q : g.get? b with
  | some u =>
    have := k b u q
    rw [e] at this; cases this
    exact F.keep b _ q
  | none => exact (N (b, o) (mem_rest h1 q e h2)).1
end L2

namespace L2
open PySem PySem.Spec PyProof.Rows

/-- the module's facts, over the base: the heap at the law's entry without what is tracked there -/
structure Mod (K : PySem.W.Frag) (mg : Str → Option Value) (base : Heap) : Prop where
  kin : K.In base
  glob : base.Ns mainGlobals mg
  blt : ∃ mb, base.Ns builtinsNs mb ∧ ∀ x : Str, x ≠ "__name__" → mb x = bootBuiltins x
  nolimit : base.NoLimit

/-- the context: a def's body (or a comprehension's block) running. base: fixed through the whole law; s₀, H₀: the entry; outer: the frames whose slots others may change (a def's callers); stack: all frames that run;
   ex: iterators that were made ahead of the entry and are walked here (a comprehension's); fn: the names whose cells were made at the entry (a def: all; a comprehension's block: its own); calm: not within an except suite; pn: pins that every state bears; xe: what is wanted of an exception that leaves the code -/
structure Cx where
  prog : Program
  w : World
  K : PySem.W.Frag
  mg : Str → Option Value
  base : Heap
  A : Around
  N : List Str
  s₀ : Shared
  H₀ : Hp
  env : Env
  outer : List Env
  stack : List Env
  ex : List Addr
  fn : Str → Bool
  calm : Bool
  pn : List (Addr × Obj)
  xe : Value → Shared → Prop
/-- the callers' frames -/
def frs (l : List Env) : List Addr := l.filterMap (·.frame)
abbrev Cx.fs (X : Cx) : List Addr := frs X.outer

def Vis (sc : Scope) (x : Str) : Prop := sc.names.lookup x = some .local ∨ sc.names.lookup x = some .cell ∨ sc.names.lookup x = some .free
def Loc (sc : Scope) (x : Str) : Prop := sc.names.lookup x = some .local ∨ sc.names.lookup x = some .cell
def Look (env : Env) (h : Heap) (m : Str → Option Value) (x : Str) (u : Value) : Prop :=
  (env.kindOf x = some .local ∧ m x = some u) ∨ ((env.kindOf x = some .cell ∨ env.kindOf x = some .free) ∧ ∃ c, env.cells.lookup x = some c ∧ h.IsCell c (some u))

structure Cx.Ok (X : Cx) : Prop where
  mod : Mod X.K X.mg X.base
  kind : X.env.scope.kind = .function
  glob : X.env.globals = mainGlobals
  blt : X.env.builtins = builtinsNs
  above : X.s₀.heap.objs.size ≤ X.env.locals
  inj : ∀ x y c, X.env.cells.lookup x = some c → X.env.cells.lookup y = some c → x = y
  has : ∀ x, (X.env.kindOf x = some .cell ∨ X.env.kindOf x = some .free) → ∃ c, X.env.cells.lookup x = some c
  cab : ∀ x c, X.fn x = true → X.env.cells.lookup x = some c → X.s₀.heap.objs.size ≤ c
  hd : X.calm = true → X.A.handled = none
  frames : X.A.frames = some X.stack
  stk : X.stack = X.outer ∨ (X.stack = X.env :: X.outer ∧ X.env.frame = some X.env.locals)
  exf : ∀ b ∈ X.ex, b ≠ X.env.locals ∧ ∀ x c, X.env.cells.lookup x = some c → c ≠ b
  bs : ∀ b o, X.base.get? b = some o → X.s₀.heap.get? b = some o ∧ X.H₀ b = none
  bsz : X.base.objs.size ≤ X.s₀.heap.objs.size
  noex : ∀ b o, X.base.get? b = some o → b ∉ X.ex
  exfs : ∀ b ∈ X.ex, b ∉ X.fs
  funs : X.s₀.heap.FunFrames X.base X.outer
  frf : ∀ b ∈ X.fs, X.H₀ b = none

structure Inv (X : Cx) (pins : List (Addr × Obj)) (σ : List (Option V)) (H : Hp) (s : Shared) : Prop where
  ok : X.Ok
  os : s.os = X.s₀.os
  bare : AllBare s.gens
  base : Un X.fs X.ex X.H₀ H X.s₀.heap s.heap
  loc : ∃ m, s.heap.Ns X.env.locals m ∧ ∀ (i : Nat) (x : Str) (v : V), X.N[i]? = some x → σ[i]? = some (some v) → Vis X.env.scope x → ∃ u, RelV v u ∧ Look X.env s.heap m x u
  cell : ∀ x c, X.env.cells.lookup x = some c → ∃ v, s.heap.IsCell c v
  free : H X.env.locals = none
  freeC : ∀ x c, X.env.cells.lookup x = some c → H c = none
  pin : ∀ p ∈ X.pn ++ pins, s.heap.get? p.1 = some p.2 ∧ H p.1 = none ∧ p.1 ≠ X.env.locals ∧ p.1 ∉ X.fs ∧ ∀ v, p.2.data ≠ .cell v
  hok : HOk X.prog X.w H s.heap
  len : σ.length = X.N.length

section
variable {X : Cx} {pins : List (Addr × Obj)} {σ : List (Option V)} {H H' : Hp} {s : Shared} {h' : Heap}

theorem Cx.Ok.nofr (ok : X.Ok) {b : Addr} {o : Obj} (e : X.base.get? b = some o) : b ∉ X.fs := fun hb => by
  have := (ok.funs.mem hb).1
  rw [e] at this; cases this
theorem Inv.bs (I : Inv X pins σ H s) : ∀ b o, X.base.get? b = some o → s.heap.get? b = some o ∧ H b = none := fun b o e =>
  ⟨I.base.keep b o (I.ok.bs b o e).1 (I.ok.bs b o e).2 (I.ok.nofr e) (I.ok.noex b o e), I.base.free b o (I.ok.bs b o e).1 (I.ok.bs b o e).2 (I.ok.noex b o e)⟩
theorem Inv.bk (I : Inv X pins σ H s) : ∀ b o, X.base.get? b = some o → s.heap.get? b = some o := fun b o e => (I.bs b o e).1
theorem Inv.mod (I : Inv X pins σ H s) : Mod X.K X.mg X.base := I.ok.mod
theorem Inv.kIn (I : Inv X pins σ H s) : X.K.In s.heap := I.ok.mod.kin.keeps I.bk
theorem Inv.nolimit (I : Inv X pins σ H s) : s.heap.NoLimit := I.ok.mod.nolimit.keeps I.bk
/-- the frame over the base: for OpenK's rules (K.In X.base is I.mod.kin) -/
theorem Inv.fr (I : Inv X pins σ H s) : ∃ m, Fr X.base X.env.locals s.heap m :=
  let ⟨m, hn, _⟩ := I.loc
  ⟨m, hn, I.bk, Nat.le_trans I.ok.bsz I.ok.above⟩
theorem Inv.lt (I : Inv X pins σ H s) : X.env.locals < s.heap.objs.size := let ⟨_, hn, _⟩ := I.loc; hn.lt
theorem Inv.sz (I : Inv X pins σ H s) : X.s₀.heap.objs.size ≤ s.heap.objs.size := Nat.le_trans I.ok.above (Nat.le_of_lt I.lt)
theorem Inv.nofs (I : Inv X pins σ H s) {a : Addr} (h : s.heap.objs.size ≤ a) : a ∉ X.fs := fun hb => by
  obtain ⟨_, o, ho, _⟩ := I.ok.funs.mem hb
  exact absurd (Nat.lt_of_lt_of_le (Heap.lt_size ho) (Nat.le_trans I.sz h)) (Nat.lt_irrefl _)
theorem Inv.cne (I : Inv X pins σ H s) : ∀ x c, X.env.cells.lookup x = some c → c ≠ X.env.locals := fun x c e z => by
  obtain ⟨v, o, ho, hd⟩ := I.cell x c e
  obtain ⟨m, ⟨o', es, ep, ho', hd', _⟩, _⟩ := I.loc
  rw [z, ho'] at ho; cases ho; rw [hd'] at hd; cases hd
theorem Inv.funs (I : Inv X pins σ H s) : s.heap.FunFrames X.base X.outer := by
  have all : ∀ (l : List Env), (∀ b ∈ frs l, b ∈ X.fs) → X.s₀.heap.FunFrames X.base l → s.heap.FunFrames X.base l := by
    intro l
    induction l with
    | nil => intro _ _; trivial
    | cons env r ih =>
      intro hs hl
      obtain ⟨hk, ⟨L, o, hf, hn, ho, hd⟩, hr⟩ := hl
      have hL : L ∈ X.fs := hs L (by unfold frs; rw [List.filterMap_cons, hf]; exact List.mem_cons_self)
      obtain ⟨sl, e⟩ := I.base.slot L o ho (I.ok.frf L hL) hL fun z => I.ok.exfs L z hL
      exact ⟨hk, ⟨L, _, hf, hn, e, hd⟩, ih (fun b hb => hs b (by unfold frs; rw [List.filterMap_cons, hf]; exact List.mem_cons_of_mem _ hb)) hr⟩
  exact all X.outer (fun _ hb => hb) I.ok.funs

/-- the frames that run, for a call -/
theorem Inv.stack (I : Inv X pins σ H s) : s.heap.FunFrames X.base X.stack := by
  rcases I.ok.stk with e | ⟨e, hf⟩
  · rw [e]; exact I.funs
  · rw [e]
    obtain ⟨m, hn, _⟩ := I.loc
    refine .cons (by rw [I.ok.kind]; decide) hf hn ?_ I.funs
    exact Heap.get?_none_of_le (Nat.le_trans I.ok.bsz I.ok.above)
theorem Inv.stkSub (I : Inv X pins σ H s) : ∀ b ∈ frs X.stack, b ∈ X.env.locals :: X.fs := fun b hb => by
  rcases I.ok.stk with e | ⟨e, hf⟩
  · rw [e] at hb; exact List.mem_cons_of_mem _ hb
  · rw [e] at hb
    unfold frs at hb
    rw [List.filterMap_cons, hf] at hb
    exact hb
theorem Inv.stkFree (I : Inv X pins σ H s) : ∀ b ∈ frs X.stack, H b = none := fun b hb => by
  rcases List.mem_cons.mp (I.stkSub b hb) with e | hb
  · rw [e]; exact I.free
  · obtain ⟨_, o, ho, _⟩ := I.ok.funs.mem hb
    exact I.base.free b o ho (I.ok.frf b hb) fun z => I.ok.exfs b z hb

/-- THE STEP: the untracked objects but the frame and the records at ch are kept (the callers' frames up to slots), the frame's map is kept, the new abstract heap is held -/
theorem Inv.step {g' : Array GenState} {t' : Nat} {d' : Drawn} {ch : List Addr} (I : Inv X pins σ H s)
    (hch : ∀ b ∈ ch, (b ∈ X.ex ∨ X.s₀.heap.objs.size ≤ b) ∧ b ≠ X.env.locals ∧ (∀ x c, X.env.cells.lookup x = some c → c ≠ b) ∧ ∀ p ∈ X.pn ++ pins, p.1 ≠ b)
    (keep : ∀ b o, b ≠ X.env.locals → b ∉ X.fs → b ∉ ch → s.heap.get? b = some o → H b = none → h'.get? b = some o)
    (slot : ∀ b o, b ≠ X.env.locals → b ∈ X.fs → b ∉ ch → s.heap.get? b = some o → H b = none → ∃ sl, h'.get? b = some { o with slots := sl }) (free : ∀ b o, b ∉ ch → s.heap.get? b = some o → H b = none → H' b = none)
    (there : ∀ b o, b ∉ ch → s.heap.get? b = some o → ∃ o', h'.get? b = some o')
    (tups : ∀ b xs, H b = some (.tup xs) → H' b = some (.tup xs)) (frzs : ∀ b o u, H b = some (.frz o u) → H' b = some (.frz o u)) (tbls : ∀ b ps, H b = some (.tbl ps) → ∃ more, H' b = some (.tbl (ps ++ more)))
    (ns : ∀ m, s.heap.Ns X.env.locals m → h'.Ns X.env.locals m) (hok : HOk X.prog X.w H' h') (hg : AllBare g') :
    Inv X pins σ H' { s with heap := h', gens := g', drawn := d', toks := t' } := by
  have neL : ∀ b o, X.s₀.heap.get? b = some o → b ≠ X.env.locals := fun b o e => Nat.ne_of_lt (Nat.lt_of_lt_of_le (Heap.lt_size e) I.ok.above)
  have neC : ∀ b o, X.s₀.heap.get? b = some o → b ∉ X.ex → b ∉ ch := fun b o e hx hb => by
    rcases (hch b hb).1 with z | z
    · exact hx z
    · exact absurd (Nat.lt_of_lt_of_le (Heap.lt_size e) z) (Nat.lt_irrefl _)
  have cellK : ∀ x c, X.env.cells.lookup x = some c → ∀ v, s.heap.IsCell c v → h'.IsCell c v := fun x c e v ⟨o, ho, hd⟩ => by
    have nch : c ∉ ch := fun z => (hch c z).2.2.1 x c e rfl
    by_cases hc : c ∈ X.fs
    · obtain ⟨sl, q⟩ := slot c o (I.cne x c e) hc nch ho (I.freeC x c e)
      exact ⟨_, q, hd⟩
    · exact ⟨o, keep c o (I.cne x c e) hc nch ho (I.freeC x c e), hd⟩
  refine ⟨I.ok, I.os, hg, ⟨fun b o e n hb hx => ?_, fun b o e n hb hx => ?_, fun b o e n hx => ?_, fun b o e hx => ?_, fun b xs e => tups b xs (I.base.tups b xs e), fun b o xs e => frzs b o xs (I.base.frzs b o xs e), fun b ps e => ?_⟩, ?_, fun x c e => ?_, ?_, fun x c e => ?_, fun p hp => ?_, hok, I.len⟩
  · exact keep b o (neL b o e) hb (neC b o e hx) (I.base.keep b o e n hb hx) (I.base.free b o e n hx)
  · obtain ⟨sl, e1⟩ := I.base.slot b o e n hb hx
    obtain ⟨sl', e2⟩ := slot b _ (neL b o e) hb (neC b o e hx) e1 (I.base.free b o e n hx)
    exact ⟨sl', e2⟩
  · obtain ⟨o', e1⟩ := I.base.there b o e hx
    exact free b o' (neC b o e hx) e1 (I.base.free b o e n hx)
  · obtain ⟨o', e1⟩ := I.base.there b o e hx
    exact there b o' (neC b o e hx) e1
  · obtain ⟨m1, e1⟩ := I.base.tbls b ps e
    obtain ⟨m2, e2⟩ := tbls b _ e1
    exact ⟨m1 ++ m2, by rw [e2, Array.append_assoc]⟩
  · obtain ⟨m, hn, hl⟩ := I.loc
    refine ⟨m, ns m hn, fun i x v e1 e2 e3 => ?_⟩
    obtain ⟨u, r, l⟩ := hl i x v e1 e2 e3
    refine ⟨u, r, ?_⟩
    rcases l with l | ⟨k, c, e, z⟩
    · exact .inl l
    · exact .inr ⟨k, c, e, cellK x c e _ z⟩
  · obtain ⟨v, z⟩ := I.cell x c e
    exact ⟨v, cellK x c e v z⟩
  · obtain ⟨m, ⟨o, _, _, ho, _⟩, _⟩ := I.loc
    exact free _ o (fun z => (hch _ z).2.1 rfl) ho I.free
  · obtain ⟨v, o, ho, hd⟩ := I.cell x c e
    exact free c o (fun z => (hch c z).2.2.1 x c e rfl) ho (I.freeC x c e)
  · obtain ⟨e, n, ne, nf, d⟩ := I.pin p hp
    have nch : p.1 ∉ ch := fun z => (hch p.1 z).2.2.2 p hp rfl
    exact ⟨keep p.1 p.2 ne nf nch e n, free p.1 p.2 nch e n, ne, nf, d⟩
/-- .. where the frame's own object is kept too -/
theorem Inv.un {t' : Nat} (I : Inv X pins σ H s) (u : Un X.fs [] H H' s.heap h') (hok : HOk X.prog X.w H' h') : Inv X pins σ H' { s with heap := h', toks := t' } := by
  obtain ⟨m, ⟨o, es, ep, ho, r⟩, _⟩ := id I.loc
  obtain ⟨sl, hL⟩ := u.any ho I.free (by simp)
  exact I.step (g' := s.gens) (d' := s.drawn) (ch := []) (fun _ z => nomatch z) (fun b o _ hb _ e n => u.keep b o e n hb (by simp)) (fun b o _ hb _ e n => u.slot b o e n hb (by simp)) (fun b o _ e n => u.free b o e n (by simp)) (fun b o _ e => u.there b o e (by simp)) u.tups u.frzs u.tbls (fun m' hm => by
    obtain ⟨o', es', ep', ho', r'⟩ := hm
    rw [ho] at ho'; cases ho'
    exact ⟨_, es', ep', hL, r'⟩) hok I.bare
/-- behind a call (or a comprehension's block): the slots of this frame may have changed too, the records at ch may have turned -/
theorem Inv.call {g' : Array GenState} {t' : Nat} {d' : Drawn} {ch : List Addr} (I : Inv X pins σ H s) (u : Un (frs X.stack) ch H H' s.heap h') (hok : HOk X.prog X.w H' h') (hg : AllBare g')
    (hch : ∀ b ∈ ch, (b ∈ X.ex ∨ X.s₀.heap.objs.size ≤ b) ∧ b ≠ X.env.locals ∧ (∀ x c, X.env.cells.lookup x = some c → c ≠ b) ∧ ∀ p ∈ X.pn ++ pins, p.1 ≠ b) :
    Inv X pins σ H' { s with heap := h', gens := g', drawn := d', toks := t' } := by
  obtain ⟨m, ⟨o, es, ep, ho, r⟩, _⟩ := id I.loc
  obtain ⟨sl, hL⟩ := u.any ho I.free fun z => (hch _ z).2.1 rfl
  exact I.step (ch := ch) hch (fun b o hL hb hc e n => u.keep b o e n (fun z => (List.mem_cons.mp (I.stkSub b z)).elim hL hb) hc) (fun b o _ _ hc e n => u.any e n hc) (fun b o hc e n => u.free b o e n hc) (fun b o hc e => u.there b o e hc) u.tups u.frzs u.tbls (fun m' hm => by
    obtain ⟨o', es', ep', ho', r'⟩ := hm
    rw [ho] at ho'; cases ho'
    exact ⟨_, es', ep', hL, r'⟩) hok hg
/-- an untracked record of ours (an iterator) has turned -/
theorem Inv.turned {t' : Nat} {it : Addr} (I : Inv X pins σ H s) (k : ∀ b o, b ≠ it → s.heap.get? b = some o → h'.get? b = some o) (hn : H it = none) (hL : it ≠ X.env.locals)
    (h1 : it ∈ X.ex ∨ X.s₀.heap.objs.size ≤ it) (h2 : ∀ x c, X.env.cells.lookup x = some c → c ≠ it) (h3 : ∀ p ∈ X.pn ++ pins, p.1 ≠ it) : Inv X pins σ H { s with heap := h', toks := t' } := by
  have nit : ∀ b u, H b = some u → b ≠ it := fun b u e z => by rw [z, hn] at e; cases e
  refine I.step (g' := s.gens) (d' := s.drawn) (ch := [it]) (fun b hb => ?_) (fun b o _ _ hc e _ => k b o (fun z => hc (by simp [z])) e) (fun b o _ _ hc e _ => ⟨o.slots, k b o (fun z => hc (by simp [z])) e⟩) (fun _ _ _ _ n => n)
    (fun b o hc e => ⟨o, k b o (fun z => hc (by simp [z])) e⟩) (fun _ _ e => e) (fun _ _ _ e => e) (fun b ps e => ⟨#[], by rw [e]; simp⟩) (fun m hm => ?_) (fun b u e => ?_) I.bare
  · have e : b = it := by simpa using hb
    subst e
    exact ⟨h1, hL, h2, h3⟩
  · obtain ⟨o, es, ep, ho, r⟩ := hm
    exact ⟨o, es, ep, k _ o (Ne.symm hL) ho, r⟩
  · refine (I.hok b u e).stay (fun c v hc q => k c v ?_ q) (fun _ q => q) fun _ _ q => q
    rcases hc with z | z
    · rw [z]; exact nit b u e
    · exact nit c _ z
theorem Inv.tok (I : Inv X pins σ H s) (t : Nat) : Inv X pins σ H { s with toks := t } := I.un (h' := s.heap) (t' := t) Un.refl I.hok
/-- all objects kept -/
theorem Inv.kept {t' : Nat} (I : Inv X pins σ H s) (k : ∀ b u, s.heap.get? b = some u → h'.get? b = some u) : Inv X pins σ H { s with heap := h', toks := t' } := I.un (Un.kept k) (I.hok.kept k)
/-- a new object laid and tracked -/
theorem Inv.laid {a : Addr} {o : HO} {t' : Nat} (I : Inv X pins σ H s) (k : ∀ b u, s.heap.get? b = some u → h'.get? b = some u) (hp : s.heap.objs.size ≤ a) (new : ObjOk X.prog X.w (upd H a o) h' a o) :
    Inv X pins σ (upd H a o) { s with heap := h', toks := t' } := I.un (Un.laid k hp (I.hok.fresh hp)) (I.hok.laid k hp new)
/-- an object written -/
theorem Inv.write {x e : Addr} {o : HO} {t' : Nat} (I : Inv X pins σ H s) (mu : Mut (H x)) (he : e = x ∨ H e = some (.own x)) (k : ∀ b u, b ≠ e → s.heap.get? b = some u → h'.get? b = some u) (heo : ∃ u, h'.get? e = some u)
    (new : ObjOk X.prog X.w (upd H x o) h' x o) : Inv X pins σ (upd H x o) { s with heap := h', toks := t' } := I.un (Un.write mu he k heo) (I.hok.write mu he k heo new)
/-- forgetting slots, pins -/
theorem Inv.weak {σ' : List (Option V)} (I : Inv X pins σ H s) (hl : σ'.length = σ.length) (w : ∀ (i : Nat) v, σ'[i]? = some (some v) → σ[i]? = some (some v)) : Inv X pins σ' H s :=
  ⟨I.ok, I.os, I.bare, I.base, let ⟨m, hn, hl'⟩ := I.loc; ⟨m, hn, fun i x v e1 e2 e3 => hl' i x v e1 (w i v e2) e3⟩, I.cell, I.free, I.freeC, I.pin, I.hok, hl.trans I.len⟩
theorem Inv.pins_of {pins' : List (Addr × Obj)} (I : Inv X pins σ H s) (h : ∀ p ∈ pins', s.heap.get? p.1 = some p.2 ∧ H p.1 = none ∧ p.1 ≠ X.env.locals ∧ p.1 ∉ X.fs ∧ ∀ v, p.2.data ≠ .cell v) : Inv X pins' σ H s :=
  ⟨I.ok, I.os, I.bare, I.base, I.loc, I.cell, I.free, I.freeC, fun p hp => (List.mem_append.mp hp).elim (fun z => I.pin p (List.mem_append_left _ z)) (h p), I.hok, I.len⟩

theorem nodup_ix {N : List Str} (hN : N.Nodup) {i j : Nat} {x : Str} (a : N[i]? = some x) (b : N[j]? = some x) : i = j := by
  obtain ⟨h1, e1⟩ := List.getElem?_eq_some_iff.mp a
  obtain ⟨h2, e2⟩ := List.getElem?_eq_some_iff.mp b
  exact (List.getElem_inj hN).mp (e1.trans e2.symm)

/-- a name is stored; what changed -/
theorem store_ok2 {M : Model} {A : Around} {E : Value → Shared → Prop} {i : Nat} {x : Str} {v : V} {u : Value} {Q : Unit → Shared → Prop} (I : Inv X pins σ H s) (hN : X.N.Nodup) (hi : X.N[i]? = some x) (hx : Loc X.env.scope x) (r : RelV v u)
    (h : ∀ s', Inv X pins (σ.set i (some v)) H s' → (∃ a, Heap.SameBut a s.heap s'.heap ∧ (a = X.env.locals ∨ X.env.cells.lookup x = some a)) → Q () s') (hf : X.fn x = true ∨ X.env.scope.names.lookup x = some .local := by first | exact .inl rfl | exact .inr rfl | assumption) : wpAny M A (storeName X.env x u) Q E s := by
  obtain ⟨m, hn, hl⟩ := id I.loc
  have hcls : (X.env.scope.kind == .class || (X.env.scope.kind == .module && X.env.locals != X.env.globals)) = false := by rw [I.ok.kind]; rfl
  have hiσ : i < σ.length := by rw [I.len]; exact (List.getElem?_eq_some_iff.mp hi).1
  have cne := I.cne
  have tracked : ∀ {a : Addr} {h' : Heap}, (∃ o, s.heap.get? a = some o ∧ H a = none) → Heap.SameBut a s.heap h' → HOk X.prog X.w H h' := fun {a h'} ha hs b ob e => by
    obtain ⟨_, _, hfree⟩ := ha
    refine (I.hok b ob e).stay (fun c w' hc q => (hs.2 c ?_).trans q) (fun _ q => q) fun _ _ q => q
    rintro rfl
    rcases hc with rfl | hc
    · rw [hfree] at e; cases e
    · rw [hfree] at hc; cases hc
  rcases hx with hk | hk
  · refine wpAny_storeName_local hk hn (fun h' hn' hs => ?_) hcls
    obtain ⟨oL, _, _, hoL, _⟩ := id hn
    refine h _ ⟨I.ok, I.os, I.bare, ⟨fun b o e n hb hx => ?_, fun b o e n hb hx => ?_, I.base.free, fun b o e hx => ?_, I.base.tups, I.base.frzs, I.base.tbls⟩, ⟨_, hn', fun j y v' e1 e2 e3 => ?_⟩, fun y c e => ?_, I.free, I.freeC, fun p hp => ?_, tracked ⟨oL, hoL, I.free⟩ hs, by simpa using I.len⟩ ⟨_, hs, .inl rfl⟩
    · exact (hs.2 b (Nat.ne_of_lt (Nat.lt_of_lt_of_le (Heap.lt_size e) I.ok.above))).trans (I.base.keep b o e n hb hx)
    · obtain ⟨sl, e1⟩ := I.base.slot b o e n hb hx
      exact ⟨sl, (hs.2 b (Nat.ne_of_lt (Nat.lt_of_lt_of_le (Heap.lt_size e) I.ok.above))).trans e1⟩
    · obtain ⟨o', e1⟩ := I.base.there b o e hx
      exact ⟨o', (hs.2 b (Nat.ne_of_lt (Nat.lt_of_lt_of_le (Heap.lt_size e) I.ok.above))).trans e1⟩
    · by_cases hj : j = i
      · subst hj
        rw [hi] at e1; cases e1
        rw [List.getElem?_set_self hiσ] at e2
        cases e2
        exact ⟨u, r, .inl ⟨hk, by simp⟩⟩
      · rw [List.getElem?_set_ne (Ne.symm hj)] at e2
        obtain ⟨u', r', q⟩ := hl j y v' e1 e2 e3
        refine ⟨u', r', ?_⟩
        rcases q with ⟨k, e⟩ | ⟨k, c, e, z⟩
        · refine .inl ⟨k, ?_⟩
          have : y ≠ x := fun e => hj (nodup_ix hN e1 (e ▸ hi))
          simp [this, e]
        · exact .inr ⟨k, c, e, z.sameBut hs (cne y c e)⟩
    · obtain ⟨w', z⟩ := I.cell y c e
      exact ⟨w', z.sameBut hs (cne y c e)⟩
    · obtain ⟨e, n, ne, nf, d⟩ := I.pin p hp
      exact ⟨(hs.2 p.1 ne).trans e, n, ne, nf, d⟩
  · have hfn : X.fn x = true := by
      rcases hf with z | z
      · exact z
      · rw [z] at hk; cases hk
    obtain ⟨c, hc⟩ := I.ok.has x (.inl hk)
    obtain ⟨w', z⟩ := I.cell x c hc
    refine wpAny_storeName_cell I.ok.kind hk hc z (fun h' hc' hs => ?_)
    obtain ⟨oc, hoc, hocd⟩ := id z
    refine h { s with heap := h' } ⟨I.ok, I.os, I.bare, ⟨fun b o e n hb hx => ?_, fun b o e n hb hx => ?_, I.base.free, fun b o e hx => ?_, I.base.tups, I.base.frzs, I.base.tbls⟩, ⟨m, hn.sameBut hs (Ne.symm (cne x c hc)), fun j y v' e1 e2 e3 => ?_⟩, fun y c' e => ?_, I.free, I.freeC, fun p hp => ?_, tracked ⟨oc, hoc, I.freeC x c hc⟩ hs, by simpa using I.len⟩ ⟨c, hs, .inr hc⟩
    · exact (hs.2 b (Nat.ne_of_lt (Nat.lt_of_lt_of_le (Heap.lt_size e) (I.ok.cab x c hfn hc)))).trans (I.base.keep b o e n hb hx)
    · obtain ⟨sl, e1⟩ := I.base.slot b o e n hb hx
      exact ⟨sl, (hs.2 b (Nat.ne_of_lt (Nat.lt_of_lt_of_le (Heap.lt_size e) (I.ok.cab x c hfn hc)))).trans e1⟩
    · obtain ⟨o', e1⟩ := I.base.there b o e hx
      exact ⟨o', (hs.2 b (Nat.ne_of_lt (Nat.lt_of_lt_of_le (Heap.lt_size e) (I.ok.cab x c hfn hc)))).trans e1⟩
    · by_cases hj : j = i
      · subst hj
        rw [hi] at e1; cases e1
        rw [List.getElem?_set_self hiσ] at e2
        cases e2
        exact ⟨u, r, .inr ⟨.inl hk, c, hc, hc'⟩⟩
      · rw [List.getElem?_set_ne (Ne.symm hj)] at e2
        obtain ⟨u', r', q⟩ := hl j y v' e1 e2 e3
        refine ⟨u', r', ?_⟩
        rcases q with q | ⟨k, c', e, z'⟩
        · exact .inl q
        · refine .inr ⟨k, c', e, z'.sameBut hs ?_⟩
          rintro rfl
          exact hj (nodup_ix hN e1 (I.ok.inj _ _ _ e hc ▸ hi))
    · by_cases hcc : c' = c
      · subst hcc; exact ⟨_, hc'⟩
      · obtain ⟨w2, z2⟩ := I.cell y c' e
        exact ⟨w2, z2.sameBut hs hcc⟩
    · obtain ⟨e, n, ne, nf, d⟩ := I.pin p hp
      refine ⟨(hs.2 p.1 ?_).trans e, n, ne, nf, d⟩
      intro q
      rw [q, hoc] at e
      have q' : oc = p.2 := Option.some.inj e
      exact d w' (by rw [← q']; exact hocd)
theorem store_ok {M : Model} {A : Around} {E : Value → Shared → Prop} {i : Nat} {x : Str} {v : V} {u : Value} {Q : Unit → Shared → Prop} (I : Inv X pins σ H s) (hN : X.N.Nodup) (hi : X.N[i]? = some x) (hx : Loc X.env.scope x) (r : RelV v u)
    (h : ∀ s', Inv X pins (σ.set i (some v)) H s' → Q () s') (hf : X.fn x = true ∨ X.env.scope.names.lookup x = some .local := by first | exact .inl rfl | exact .inr rfl | assumption) : wpAny M A (storeName X.env x u) Q E s :=
  store_ok2 I hN hi hx r (fun s' I' _ => h s' I') hf
/-- behind a call or a block, the state as it is -/
theorem Inv.call' {s' : Shared} {ch : List Addr} (I : Inv X pins σ H s) (ho : s'.os = s.os) (u : Un (frs X.stack) ch H H' s.heap s'.heap) (hok : HOk X.prog X.w H' s'.heap) (hg : AllBare s'.gens)
    (hch : ∀ b ∈ ch, (b ∈ X.ex ∨ X.s₀.heap.objs.size ≤ b) ∧ b ≠ X.env.locals ∧ (∀ x c, X.env.cells.lookup x = some c → c ≠ b) ∧ ∀ p ∈ X.pn ++ pins, p.1 ≠ b) : Inv X pins σ H' s' := by
  obtain ⟨h', g', d', t', o'⟩ := s'
  have e : o' = s.os := ho
  subst e
  exact I.call (g' := g') (t' := t') (d' := d') u hok hg hch
end

/-! ### the judgements -/
/-- an exception: its class, its own dict's address (where it has one), the abstract heap behind it -/
abbrev XK := Value → Option Addr → Hp → Prop
abbrev St := List (Option V)
abbrev VK := V → Hp → Prop
/-- an expression's reading; a test's; an argument list's -/
abbrev TE := St → Hp → VK → Prop
abbrev TT := St → Hp → (Bool → Hp → Prop) → Prop
abbrev TA := St → Hp → (List V → Hp → Prop) → Prop
/-- what is wanted behind a statement -/
structure Ends where
  nx : St → Hp → Prop
  rt : VK
  bk : St → Hp → Prop := fun _ _ => False
  ct : St → Hp → Prop := fun _ _ => False
abbrev TS := Ends → St → Hp → Prop

def EP (X : Cx) (pins : List (Addr × Obj)) (σ : St) (Q : VK) (u : Value) (s' : Shared) : Prop := ∃ v H', Inv X pins σ H' s' ∧ RelV v u ∧ Q v H'
def TP (X : Cx) (pins : List (Addr × Obj)) (σ : St) (Q : Bool → Hp → Prop) (b : Bool) (s' : Shared) : Prop := ∃ H', Inv X pins σ H' s' ∧ Q b H'
def AP (X : Cx) (pins : List (Addr × Obj)) (σ : St) (Q : List V → Hp → Prop) (us : List Value) (s' : Shared) : Prop := ∃ vs H', Inv X pins σ H' s' ∧ Vals vs us ∧ Q vs H'
def SP (X : Cx) (pins : List (Addr × Obj)) (D : Ends) (f : Flow) (s' : Shared) : Prop :=
  match f with
  | .next => ∃ σ' H', Inv X pins σ' H' s' ∧ D.nx σ' H'
  | .brk => ∃ σ' H', Inv X pins σ' H' s' ∧ D.bk σ' H'
  | .cont => ∃ σ' H', Inv X pins σ' H' s' ∧ D.ct σ' H'
  | .ret u => ∃ v σ' H', Inv X pins σ' H' s' ∧ RelV v u ∧ D.rt v H'

def PE (X : Cx) (e : Expr) (t : TE) : Prop :=
  ∀ (pins : List (Addr × Obj)) (s : Shared) (σ : St) (H : Hp) (Q : VK), Inv X pins σ H s → t σ H Q → wpAny (model X.prog X.w) X.A (eval e X.env) (EP X pins σ Q) X.xe s
def PT (X : Cx) (e : Expr) (t : TT) : Prop :=
  ∀ (pins : List (Addr × Obj)) (s : Shared) (σ : St) (H : Hp) (Q : Bool → Hp → Prop), Inv X pins σ H s → t σ H Q → wpAny (model X.prog X.w) X.A (isTrue e X.env (eval e X.env)) (TP X pins σ Q) X.xe s
/-- a test whatever its 'whole' is (and, or) -/
def PW (X : Cx) (e : Expr) (t : TT) : Prop :=
  ∀ (whole : Sem Value) (pins : List (Addr × Obj)) (s : Shared) (σ : St) (H : Hp) (Q : Bool → Hp → Prop), Inv X pins σ H s → t σ H Q → wpAny (model X.prog X.w) X.A (isTrue e X.env whole) (TP X pins σ Q) X.xe s
theorem PW.pt {X : Cx} {e : Expr} {t : TT} (h : PW X e t) : PT X e t := h _
/-- an argument list (no star), from the left -/
def PA (X : Cx) (es : List Expr) (t : TA) : Prop :=
  ∀ (pos : Pos) (pins : List (Addr × Obj)) (s : Shared) (σ : St) (H : Hp) (Q : List V → Hp → Prop), Inv X pins σ H s → t σ H Q → wpAny (model X.prog X.w) X.A (spliced (backTo pos (starEach es X.env))) (AP X pins σ Q) X.xe s
def PS (X : Cx) (st : Stmt) (t : TS) : Prop :=
  ∀ (pins : List (Addr × Obj)) (s : Shared) (σ : St) (H : Hp) (D : Ends), Inv X pins σ H s → t D σ H → wpAny (model X.prog X.w) X.A (exec st X.env) (SP X pins D) X.xe s
def PSs (X : Cx) (st : List Stmt) (t : TS) : Prop :=
  ∀ (pins : List (Addr × Obj)) (s : Shared) (σ : St) (H : Hp) (D : Ends), Inv X pins σ H s → t D σ H → wpAny (model X.prog X.w) X.A (execs st X.env) (SP X pins D) X.xe s
/-- weaken the end -/
theorem thn {α : Type} {t : Sem α} {Q Q' : α → Shared → Prop} {M : Model} {A : Around} {E : Value → Shared → Prop} {s : Shared} (h : wpAny M A t Q E s) (hQ : ∀ a s, Q a s → Q' a s) : wpAny M A t Q' E s := wpAny_mono h hQ fun _ _ x => x
end L2

namespace L2
open PySem PySem.Spec PyProof.Rows
section
variable {X : Cx}

/-- two expressions in a row -/
theorem bin {a b : Expr} {ta tb : TE} (ha : PE X a ta) (hb : PE X b tb) {pins : List (Addr × Obj)} {s : Shared} {σ : St} {H : Hp} {R : V → V → Hp → Prop} (I : Inv X pins σ H s) (h : ta σ H fun x H1 => tb σ H1 fun y H2 => R x y H2)
    {α : Type} {Q : α → Shared → Prop} {f : Value → Value → Sem α}
    (hf : ∀ v u s2 x y H2, Inv X pins σ H2 s2 → RelV x v → RelV y u → R x y H2 → wpAny (model X.prog X.w) X.A (f v u) Q X.xe s2) :
    wpAny (model X.prog X.w) X.A (eval a X.env) (fun v s₁ => wpAny (model X.prog X.w) X.A (eval b X.env) (fun u s₂ => wpAny (model X.prog X.w) X.A (f v u) Q X.xe s₂) X.xe s₁) X.xe s := by
  refine thn (ha pins s σ H _ I h) fun v s1 ⟨x, H1, I1, r1, q1⟩ => ?_
  refine thn (hb pins s1 σ H1 _ I1 q1) fun u s2 ⟨y, H2, I2, r2, q2⟩ => ?_
  exact hf v u s2 x y H2 I2 r1 r2 q2

/-! ### names and constants -/
def tVar (i : Nat) : TE := fun σ H Q => ∃ v, σ[i]? = some (some v) ∧ Q v H
def tC (v : V) : TE := fun _ H Q => Q v H
theorem pe_var {i : Nat} {x : Str} {pos : Pos} (hN : X.N[i]? = some x) (hv : Vis X.env.scope x) (hd : (x == ("__debug__" : Str)) = false := by decide) (hcd : (x == ("__classdict__" : Str)) = false := by decide) : PE X (.Name x pos) (tVar i) := by
  intro pins s σ H Q I h
  obtain ⟨v, e, h⟩ := h
  obtain ⟨m, hn, hl⟩ := I.loc
  obtain ⟨u, r, l⟩ := hl i x v hN e hv
  have fin : EP X pins σ Q u s := ⟨v, H, I, r, h⟩
  rcases l with ⟨hk, hm⟩ | ⟨hk, c, hc, hcell⟩
  · exact wpAny_Name (wpAny_loadName_local I.ok.kind hk hn hm fin) hd
  · rcases hk with hk | hk
    · exact wpAny_Name (wpAny_loadName_cell I.ok.kind hk hc hcell fin) hd
    · exact wpAny_Name (wpAny_loadName_free I.ok.kind hk hc hcell fin hcd) hd
theorem pe_int {i j pos} : PE X (.Constant (.int i) j pos) (tC (.int i)) := fun _ _ _ H _ I h => wpAny_Constant_int ⟨.int i, H, I.tok _, ⟨_, rfl⟩, h⟩
theorem pe_bl {b j pos} : PE X (.Constant (.bool b) j pos) (tC (.bl b)) := fun _ _ _ H _ I h => Constant_bool ⟨.bl b, H, I, rfl, h⟩
theorem pe_non {j pos} : PE X (.Constant .none j pos) (tC .non) := fun _ _ _ H _ I h => Constant_none ⟨.non, H, I, rfl, h⟩
theorem pe_str {x j pos} : PE X (.Constant (.str x) j pos) (tC (.str x)) := fun _ _ _ H _ I h => Calls.Constant_str ⟨.str x, H, I.tok _, ⟨_, rfl⟩, h⟩

/-- a global name of the def -/
def Gl (X : Cx) (x : Str) : Prop := X.env.kindOf x = some .globalImplicit
theorem ld_glob {E : Value → Shared → Prop} {pins : List (Addr × Obj)} {s : Shared} {σ : St} {H : Hp} {x : Str} {u : Value} {pos : Pos} {Q : Value → Shared → Prop} (I : Inv X pins σ H s) (hg : Gl X x) (hm : X.mg x = some u) (h : Q u s)
    (hd : (x == ("__debug__" : Str)) = false := by decide) : wpAny (model X.prog X.w) X.A (eval (.Name x pos) X.env) Q E s :=
  Calls.Name_function_global I.ok.kind hg (Calls.loadGlobal_global (by rw [I.ok.glob]; exact I.mod.glob.keeps I.bk) hm h) hd
theorem ld_blt {E : Value → Shared → Prop} {pins : List (Addr × Obj)} {s : Shared} {σ : St} {H : Hp} {x : Str} {u : Value} {pos : Pos} {Q : Value → Shared → Prop} (I : Inv X pins σ H s) (hg : Gl X x) (hm : X.mg x = none) (hv : bootBuiltins x = some u) (h : Q u s)
    (hn : x ≠ "__name__" := by decide) (hd : (x == ("__debug__" : Str)) = false := by decide) : wpAny (model X.prog X.w) X.A (eval (.Name x pos) X.env) Q E s := by
  obtain ⟨mb, h1, h2⟩ := I.mod.blt
  exact Calls.Name_function_global I.ok.kind hg (Calls.loadGlobal_builtin (by rw [I.ok.glob]; exact I.mod.glob.keeps I.bk) hm (by rw [I.ok.blt]; exact h1.keeps I.bk) ((h2 x hn).trans hv) h) hd
/-- a module's constant, a class, a function, as a value -/
theorem pe_glob {x : Str} {v : V} {u : Value} {pos : Pos} (hg : Gl X x) (hm : X.mg x = some u) (r : RelV v u) (hd : (x == ("__debug__" : Str)) = false := by decide) : PE X (.Name x pos) (tC v) :=
  fun _ _ _ H _ I h => ld_glob I hg hm ⟨v, H, I, r, h⟩ hd
theorem pe_bltn {x : Str} {v : V} {u : Value} {pos : Pos} (hg : Gl X x) (hm : X.mg x = none) (hv : bootBuiltins x = some u) (r : RelV v u) (hn : x ≠ "__name__" := by decide) (hd : (x == ("__debug__" : Str)) = false := by decide) : PE X (.Name x pos) (tC v) :=
  fun _ _ _ H _ I h => ld_blt I hg hm hv ⟨v, H, I, r, h⟩ hn hd

/-! ### arithmetic -/
/-- two ints -/
def t2I (ta tb : TE) (k : Int → Int → Hp → Prop) : St → Hp → Prop := fun σ H => ta σ H fun x H1 => tb σ H1 fun y H2 => ∃ i j, x = .int i ∧ y = .int j ∧ k i j H2
def tAdd (ta tb : TE) : TE := fun σ H Q => t2I ta tb (fun i j H2 => Q (.int (i + j)) H2) σ H
def tSub (ta tb : TE) : TE := fun σ H Q => t2I ta tb (fun i j H2 => Q (.int (i - j)) H2) σ H
/-- the left factor below 2^64 -/
def tMul (ta tb : TE) : TE := fun σ H Q => t2I ta tb (fun i j H2 => (-(2 ^ 64) < i ∧ i < 2 ^ 64) ∧ Q (.int (i * j)) H2) σ H
variable {a b : Expr} {ta tb : TE} {pos : Pos}
theorem pe_add (ha : PE X a ta) (hb : PE X b tb) : PE X (.BinOp a .Add b pos) (tAdd ta tb) := by
  intro pins s σ H Q I h
  refine wpAny_BinOp (bin ha hb I h fun v u s2 x y H2 I2 rx ry q => ?_)
  obtain ⟨i, j, rfl, rfl, q⟩ := q
  obtain ⟨t, rfl⟩ := rx
  obtain ⟨t', rfl⟩ := ry
  exact add_int ⟨.int _, H2, I2.tok _, ⟨_, rfl⟩, q⟩
theorem pe_sub (ha : PE X a ta) (hb : PE X b tb) : PE X (.BinOp a .Sub b pos) (tSub ta tb) := by
  intro pins s σ H Q I h
  refine wpAny_BinOp (bin ha hb I h fun v u s2 x y H2 I2 rx ry q => ?_)
  obtain ⟨i, j, rfl, rfl, q⟩ := q
  obtain ⟨t, rfl⟩ := rx
  obtain ⟨t', rfl⟩ := ry
  exact sub_int ⟨.int _, H2, I2.tok _, ⟨_, rfl⟩, q⟩
theorem pe_mul (ha : PE X a ta) (hb : PE X b tb) : PE X (.BinOp a .Mult b pos) (tMul ta tb) := by
  intro pins s σ H Q I h
  refine wpAny_BinOp (bin ha hb I h fun v u s2 x y H2 I2 rx ry q => ?_)
  obtain ⟨i, j, rfl, rfl, ⟨q1, q2⟩, q⟩ := q
  obtain ⟨t, rfl⟩ := rx
  obtain ⟨t', rfl⟩ := ry
  exact mul_int ⟨.int _, H2, I2.tok _, ⟨_, rfl⟩, q⟩ (.of_left (intBits_le_64 q1 q2))

/-! ### comparisons -/
def PC (X : Cx) (op : CmpOp) (a b : Expr) (t : TE) : Prop :=
  ∀ (pins : List (Addr × Obj)) (s : Shared) (σ : St) (H : Hp) (Q : VK), Inv X pins σ H s → t σ H Q →
    wpAny (model X.prog X.w) X.A (eval a X.env) (fun v s₁ => wpAny (model X.prog X.w) X.A (eval b X.env) (fun u s₂ => wpAny (model X.prog X.w) X.A (compareOp op v u) (EP X pins σ Q) X.xe s₂) X.xe s₁) X.xe s
theorem nobehind (b : Expr) {op : CmpOp} (h : op ≠ .In) (h2 : op ≠ .NotIn) : behindInMarks op b = false := by
  have e1 : (op == CmpOp.In) = false := by cases op <;> first | rfl | exact absurd rfl h
  have e2 : (op == CmpOp.NotIn) = false := by cases op <;> first | rfl | exact absurd rfl h2
  cases b <;> simp [behindInMarks, e1, e2]
def tCmp (p : Int → Int → Bool) (ta tb : TE) : TE := fun σ H Q => t2I ta tb (fun i j H2 => Q (.bl (p i j)) H2) σ H
abbrev tLt : TE → TE → TE := tCmp fun i j => decide (i < j)
abbrev tLe : TE → TE → TE := tCmp fun i j => decide (i ≤ j)
abbrev tGt : TE → TE → TE := tCmp fun i j => decide (j < i)
abbrev tGe : TE → TE → TE := tCmp fun i j => decide (j ≤ i)
abbrev tEqI : TE → TE → TE := tCmp fun i j => decide (i = j)
abbrev tNeI : TE → TE → TE := tCmp fun i j => !decide (i = j)
/-- a comparison of two ints, by its rule -/
theorem pc_int {op : CmpOp} {p : Int → Int → Bool} (ha : PE X a ta) (hb : PE X b tb)
    (rule : ∀ (i j : Int) (t u : Tok) (Q : Value → Shared → Prop) (s : Shared), Q (.bool (p i j)) s → wpAny (model X.prog X.w) X.A (compareOp op (.int i t) (.int j u)) Q X.xe s) : PC X op a b (tCmp p ta tb) := by
  intro pins s σ H Q I h
  refine bin ha hb I h fun v u s2 x y H2 I2 rx ry q => ?_
  obtain ⟨i, j, rfl, rfl, q⟩ := q
  obtain ⟨t, rfl⟩ := rx
  obtain ⟨t', rfl⟩ := ry
  exact rule i j t t' _ s2 ⟨.bl _, H2, I2, rfl, q⟩
theorem pc_lt (ha : PE X a ta) (hb : PE X b tb) : PC X .Lt a b (tLt ta tb) := pc_int ha hb fun _ _ _ _ _ _ h => lt_int h
theorem pc_le (ha : PE X a ta) (hb : PE X b tb) : PC X .LtE a b (tLe ta tb) := pc_int ha hb fun _ _ _ _ _ _ h => le_int h
theorem pc_gt (ha : PE X a ta) (hb : PE X b tb) : PC X .Gt a b (tGt ta tb) := pc_int ha hb fun _ _ _ _ _ _ h => gt_int h
theorem pc_ge (ha : PE X a ta) (hb : PE X b tb) : PC X .GtE a b (tGe ta tb) := pc_int ha hb fun _ _ _ _ _ _ h => ge_int h
theorem pc_eqI (ha : PE X a ta) (hb : PE X b tb) : PC X .Eq a b (tEqI ta tb) := pc_int ha hb fun _ _ _ _ _ _ h => eq_int (by rw [Bool.beq_eq_decide_eq]; exact h)
theorem pc_neI (ha : PE X a ta) (hb : PE X b tb) : PC X .NotEq a b (tNeI ta tb) := pc_int ha hb fun _ _ _ _ _ _ h => ne_int (by rw [bne, Bool.beq_eq_decide_eq]; exact h)
/-- is None -/
def tIsN (ta : TE) : TE := fun σ H Q => ta σ H fun x H1 => Q (.bl (decide (x = .non))) H1
def tNotN (ta : TE) : TE := fun σ H Q => ta σ H fun x H1 => Q (.bl (!decide (x = .non))) H1
theorem RelV.none_iff {x : V} {v : Value} (r : RelV x v) : (v == Value.none) = decide (x = .non) := by
  cases x with
  | non => cases r; rfl
  | bl _ => cases r; rfl
  | int _ => obtain ⟨t, rfl⟩ := r; rfl
  | str _ => obtain ⟨t, rfl⟩ := r; rfl
  | byt _ => obtain ⟨t, rfl⟩ := r; rfl
  | flt _ => obtain ⟨t, rfl⟩ := r; rfl
  | ref _ => cases r; rfl
  | ty _ => cases r; rfl
theorem pc_isN {j pos'} (ha : PE X a ta) : PC X .Is a (.Constant .none j pos') (tIsN ta) := by
  intro pins s σ H Q I h
  refine thn (ha pins s σ H _ I h) fun v s1 ⟨x, H1, I1, r1, q1⟩ => ?_
  exact Constant_none (is_none_gen ⟨.bl _, H1, I1, by rw [r1.none_iff]; rfl, q1⟩)
theorem pc_notN {j pos'} (ha : PE X a ta) : PC X .IsNot a (.Constant .none j pos') (tNotN ta) := by
  intro pins s σ H Q I h
  refine thn (ha pins s σ H _ I h) fun v s1 ⟨x, H1, I1, r1, q1⟩ => ?_
  exact Constant_none (isnot_none_gen ⟨.bl _, H1, I1, by rw [r1.none_iff]; rfl, q1⟩)
/-- a comparison as a value, as a test -/
def tB (t : TE) : TT := fun σ H Q => t σ H fun x H1 => ∃ c, x = .bl c ∧ Q c H1
theorem pe_cmp {op : CmpOp} {t : TE} (h : PC X op a b t) (h1 : behindInMarks op b = false := by first | exact nobehind _ (by decide) (by decide) | rfl) : PE X (.Compare a [op] [b] pos) t := fun pins s σ H Q I hw => wpAny_Compare1 (h pins s σ H Q I hw) h1
theorem pt_cmp {op : CmpOp} {t : TE} (h : PC X op a b t) (h1 : behindInMarks op b = false := by first | exact nobehind _ (by decide) (by decide) | rfl) : PT X (.Compare a [op] [b] pos) (tB t) := by
  intro pins s σ H Q I hw
  refine wpAny_isTrue_Compare1 (thn (h pins s σ H _ I hw) fun v s1 h1 => thn h1 fun u s2 h2 => thn h2 fun c s3 ⟨x, H1, I1, r1, q1⟩ => ?_) h1
  obtain ⟨d, rfl, q⟩ := q1
  cases r1
  exact wpAny_truthy_bool ⟨H1, I1, q⟩
/-- an expression whose value is a bool, as a test -/
theorem pt_val {e : Expr} {t : TE} (h : PE X e t) (he : ∀ whole, isTrue e X.env whole = (do let v ← whole; standAt e.pos; holding [v] (truthy v)) := by intro _; rfl) : PT X e (tB t) := by
  intro pins s σ H Q I hw
  refine isTrue_plain (thn (h pins s σ H _ I hw) fun v s1 ⟨x, H1, I1, r1, q1⟩ => ?_) (he _)
  obtain ⟨d, rfl, q⟩ := q1
  cases r1
  exact wpAny_truthy_bool ⟨H1, I1, q⟩

/-! ### and, or, not -/
variable {tA tB' : TT} {rest : List Expr}
def tAnd (t u : TT) : TT := fun σ H Q => t σ H fun c H1 => if c = true then u σ H1 Q else Q false H1
def tOr (t u : TT) : TT := fun σ H Q => t σ H fun c H1 => if c = true then Q true H1 else u σ H1 Q
def tNot (t : TT) : TT := fun σ H Q => t σ H fun c H1 => Q (!c) H1
theorem pw_and1 (ha : PT X a tA) : PW X (.BoolOp .And [a] pos) tA := by
  intro wh pins s σ H Q I h
  refine isTrue_and (thn (ha pins s σ H Q I h) fun c s1 e => ?_)
  cases c with
  | true => exact isTrue_and_nil e
  | false => exact e
theorem pw_or1 (ha : PT X a tA) : PW X (.BoolOp .Or [a] pos) tA := by
  intro wh pins s σ H Q I h
  refine isTrue_or (thn (ha pins s σ H Q I h) fun c s1 e => ?_)
  cases c with
  | false => exact isTrue_or_nil e
  | true => exact e
theorem pw_and (ha : PT X a tA) (hb : PW X (.BoolOp .And (b :: rest) pos) tB') : PW X (.BoolOp .And (a :: b :: rest) pos) (tAnd tA tB') := by
  intro wh pins s σ H Q I h
  refine isTrue_and (thn (ha pins s σ H _ I h) fun c s1 ⟨H1, I1, q1⟩ => ?_)
  cases c with
  | true => exact hb wh pins s1 σ H1 Q I1 q1
  | false => exact ⟨H1, I1, q1⟩
theorem pw_or (ha : PT X a tA) (hb : PW X (.BoolOp .Or (b :: rest) pos) tB') : PW X (.BoolOp .Or (a :: b :: rest) pos) (tOr tA tB') := by
  intro wh pins s σ H Q I h
  refine isTrue_or (thn (ha pins s σ H _ I h) fun c s1 ⟨H1, I1, q1⟩ => ?_)
  cases c with
  | true => exact ⟨H1, I1, q1⟩
  | false => exact hb wh pins s1 σ H1 Q I1 q1
theorem pt_not (ha : PT X a tA) : PT X (.UnaryOp .Not a pos) (tNot tA) := by
  intro pins s σ H Q I h
  exact isTrue_not (ha pins s σ H (fun c H1 => Q (!c) H1) I h)
/-- .. as values (bools) -/
def tAndV (ta tb : TE) : TE := fun σ H Q => ta σ H fun x H1 => ∃ c, x = .bl c ∧ if c = true then tb σ H1 Q else Q (.bl false) H1
def tOrV (ta tb : TE) : TE := fun σ H Q => ta σ H fun x H1 => ∃ c, x = .bl c ∧ if c = true then Q (.bl true) H1 else tb σ H1 Q
def tNotV (ta : TE) : TE := fun σ H Q => ta σ H fun x H1 => ∃ c, x = .bl c ∧ Q (.bl (!c)) H1
theorem pe_one {op} {t : TE} (h : PE X a t) : PE X (.BoolOp op [a] pos) t := fun pins s σ H Q I hw => BoolOp_one (h pins s σ H Q I hw)
theorem pe_and (ha : PE X a ta) (hb : PE X (.BoolOp .And (b :: rest) pos) tb) : PE X (.BoolOp .And (a :: b :: rest) pos) (tAndV ta tb) := by
  intro pins s σ H Q I h
  refine BoolOp_and (thn (ha pins s σ H _ I h) fun v s1 ⟨x, H1, I1, r1, q1⟩ => ?_)
  obtain ⟨c, rfl, q1⟩ := q1
  cases r1
  refine wpAny_truthy_bool ?_
  cases c with
  | true => exact hb pins s1 σ H1 Q I1 q1
  | false => exact ⟨.bl false, H1, I1, rfl, q1⟩
theorem pe_or (ha : PE X a ta) (hb : PE X (.BoolOp .Or (b :: rest) pos) tb) : PE X (.BoolOp .Or (a :: b :: rest) pos) (tOrV ta tb) := by
  intro pins s σ H Q I h
  refine BoolOp_or (thn (ha pins s σ H _ I h) fun v s1 ⟨x, H1, I1, r1, q1⟩ => ?_)
  obtain ⟨c, rfl, q1⟩ := q1
  cases r1
  refine wpAny_truthy_bool ?_
  cases c with
  | false => exact hb pins s1 σ H1 Q I1 q1
  | true => exact ⟨.bl true, H1, I1, rfl, q1⟩
theorem pe_not (ha : PE X a ta) : PE X (.UnaryOp .Not a pos) (tNotV ta) := by
  intro pins s σ H Q I h
  refine UnaryOp_ (thn (ha pins s σ H _ I h) fun v s1 ⟨x, H1, I1, r1, q1⟩ => ?_)
  obtain ⟨c, rfl, q1⟩ := q1
  cases r1
  exact not_of (wpAny_truthy_bool ⟨.bl (!c), H1, I1, rfl, q1⟩)
/-- a if t else b -/
def tIf (t : TT) (ta tb : TE) : TE := fun σ H Q => t σ H fun c H1 => if c = true then ta σ H1 Q else tb σ H1 Q
theorem pe_ifExp {c : Expr} (hc : PT X c tA) (ha : PE X a ta) (hb : PE X b tb) : PE X (.IfExp c a b pos) (tIf tA ta tb) := by
  intro pins s σ H Q I h
  refine wpAny_IfExp (thn (hc pins s σ H _ I h) fun d s1 ⟨H1, I1, q1⟩ => ?_)
  cases d with
  | true => exact ha pins s1 σ H1 Q I1 q1
  | false => exact hb pins s1 σ H1 Q I1 q1
end
end L2

namespace L2
open PySem PySem.Spec PyProof.Rows

/-! ### a list, a tuple that is read: tracked, frozen, or an object of the module -/
def SqL (K : PySem.W.Frag) (H : Hp) (a : Addr) (xs : List V) : Prop :=
  Rd H a (.lst xs) ∨
    ∃ (o : Obj) (its : Array Value) (n : Nat), K.lookup a = some o ∧ o.cls = .type "list" ∧ o.dict = none ∧ o.data = .seq its n ∧ its.size ≤ sizeLine ∧ Vals xs its.toList
def SqT (K : PySem.W.Frag) (H : Hp) (a : Addr) (xs : List V) : Prop :=
  Rd H a (.tup xs) ∨
    ∃ (o : Obj) (its : Array Value) (n : Nat), K.lookup a = some o ∧ o.cls = .type "tuple" ∧ o.data = .seq its n ∧ its.size ≤ sizeLine ∧ Vals xs its.toList
def absV : Value → Option V
  | .none => some .non
  | .bool b => some (.bl b)
  | .int i _ => some (.int i)
  | .str x _ => some (.str x)
  | .bytes b _ => some (.byt b)
  | .float b _ => some (.flt b)
  | .ref a => some (.ref a)
  | .type n => some (.ty n)
  | _ => none
theorem RelV.abs {x : V} {u : Value} (r : RelV x u) : absV u = some x := by
  cases x with
  | non => cases r; rfl
  | bl _ => cases r; rfl
  | int _ => obtain ⟨t, rfl⟩ := r; rfl
  | str _ => obtain ⟨t, rfl⟩ := r; rfl
  | byt _ => obtain ⟨t, rfl⟩ := r; rfl
  | flt _ => obtain ⟨t, rfl⟩ := r; rfl
  | ref _ => cases r; rfl
  | ty _ => cases r; rfl
theorem RelV.inj {x y : V} {u : Value} (r : RelV x u) (q : RelV y u) : x = y := Option.some.inj (r.abs.symm.trans q.abs)
theorem Vals.inj : ∀ {xs ys : List V} {us : List Value}, Vals xs us → Vals ys us → xs = ys
  | _, _, _, .nil, .nil => rfl
  | _, _, _, .cons r t, .cons r' t' => by rw [r.inj r', Vals.inj t t']
section
variable {X : Cx} {pins : List (Addr × Obj)} {σ : St} {H : Hp} {s : Shared} {a : Addr} {xs ys : List V}
theorem SqL.of {K : PySem.W.Frag} (h : H a = some (.lst xs)) : SqL K H a xs := .inl (.inl h)
theorem SqT.of {K : PySem.W.Frag} (h : H a = some (.tup xs)) : SqT K H a xs := .inl (.inl h)
theorem Inv.list (I : Inv X pins σ H s) (h : SqL X.K H a xs) : ∃ its : List Value, Vals xs its ∧ PlainL s.heap a its.toArray ∧ xs.length ≤ sizeLine := by
  rcases h with h | ⟨o, its, n, hk, hc, hd, hs, hz, r⟩
  · obtain ⟨z, its, n, r, e⟩ := h.ok I.hok
    exact ⟨its, r, ⟨_, n, e, rfl, rfl, rfl⟩, z⟩
  · refine ⟨its.toList, r, ⟨o, n, I.kIn a o hk, hc, hd, by simpa using hs⟩, ?_⟩
    have e := r.length
    simp only [Array.length_toList] at e
    omega
theorem Inv.tuple (I : Inv X pins σ H s) (h : SqT X.K H a xs) : ∃ its : List Value, Vals xs its ∧ IsTup s.heap a its.toArray ∧ xs.length ≤ sizeLine := by
  rcases h with h | ⟨o, its, n, hk, hc, hs, hz, r⟩
  · obtain ⟨z, its, r, p⟩ := h.ok I.hok
    exact ⟨its, r, p, z⟩
  · refine ⟨its.toList, r, ⟨o, I.kIn a o hk, hc, n, by simpa using hs⟩, ?_⟩
    have e := r.length
    simp only [Array.length_toList] at e
    omega
theorem Inv.list_inj (I : Inv X pins σ H s) (h : SqL X.K H a xs) (h' : SqL X.K H a ys) : xs = ys := by
  obtain ⟨its, r, ⟨o, n, e, _, _, d⟩, _⟩ := I.list h
  obtain ⟨its', r', ⟨o', n', e', _, _, d'⟩, _⟩ := I.list h'
  rw [e] at e'; cases e'
  rw [d] at d'
  injection d' with d1 _
  have : its = its' := by simpa using congrArg Array.toList d1
  subst this
  exact r.inj r'
theorem Inv.tuple_inj (I : Inv X pins σ H s) (h : SqT X.K H a xs) (h' : SqT X.K H a ys) : xs = ys := by
  obtain ⟨its, r, ⟨o, e, _, n, d⟩, _⟩ := I.tuple h
  obtain ⟨its', r', ⟨o', e', _, n', d'⟩, _⟩ := I.tuple h'
  rw [e] at e'; cases e'
  rw [d] at d'
  injection d' with d1 _
  have : its = its' := by simpa using congrArg Array.toList d1
  subst this
  exact r.inj r'
end

/-! ### another wish about exceptions -/
abbrev Cx.wish (X : Cx) (E : Value → Shared → Prop) : Cx := { X with xe := E }
/-- no exception leaves -/
abbrev Cx.nox (X : Cx) : Cx := X.wish fun _ _ => False
theorem Cx.Ok.wish {X : Cx} (ok : X.Ok) (E : Value → Shared → Prop) : (X.wish E).Ok :=
  ⟨ok.mod, ok.kind, ok.glob, ok.blt, ok.above, ok.inj, ok.has, ok.cab, ok.hd, ok.frames, ok.stk, ok.exf, ok.bs, ok.bsz, ok.noex, ok.exfs, ok.funs, ok.frf⟩
theorem Cx.Ok.unwish {X : Cx} {E : Value → Shared → Prop} (ok : (X.wish E).Ok) : X.Ok :=
  ⟨ok.mod, ok.kind, ok.glob, ok.blt, ok.above, ok.inj, ok.has, ok.cab, ok.hd, ok.frames, ok.stk, ok.exf, ok.bs, ok.bsz, ok.noex, ok.exfs, ok.funs, ok.frf⟩
section
variable {X : Cx} {pins : List (Addr × Obj)} {σ : St} {H : Hp} {s : Shared} {E : Value → Shared → Prop}
theorem Inv.wish (I : Inv X pins σ H s) (E : Value → Shared → Prop) : Inv (X.wish E) pins σ H s := ⟨I.ok.wish E, I.os, I.bare, I.base, I.loc, I.cell, I.free, I.freeC, I.pin, I.hok, I.len⟩
theorem Inv.unwish (I : Inv (X.wish E) pins σ H s) : Inv X pins σ H s := ⟨I.ok.unwish, I.os, I.bare, I.base, I.loc, I.cell, I.free, I.freeC, I.pin, I.hok, I.len⟩
theorem SP.unwish {D : Ends} {f : Flow} {s' : Shared} (h : SP (X.wish E) pins D f s') : SP X pins D f s' := by
  cases f with
  | next => obtain ⟨σ', H', I, q⟩ := h; exact ⟨σ', H', I.unwish, q⟩
  | brk => obtain ⟨σ', H', I, q⟩ := h; exact ⟨σ', H', I.unwish, q⟩
  | cont => obtain ⟨σ', H', I, q⟩ := h; exact ⟨σ', H', I.unwish, q⟩
  | ret u => obtain ⟨v, σ', H', I, r, q⟩ := h; exact ⟨v, σ', H', I.unwish, r, q⟩
theorem PE.nox {e : Expr} {t : TE} (h : PE X.nox e t) : PE X e t := fun pins s σ H Q I hw =>
  wpAny_mono (h pins s σ H Q (I.wish _) hw) (fun _ _ ⟨v, H', I', r, q⟩ => ⟨v, H', I'.unwish, r, q⟩) fun _ _ z => False.elim z
theorem PT.nox {e : Expr} {t : TT} (h : PT X.nox e t) : PT X e t := fun pins s σ H Q I hw =>
  wpAny_mono (h pins s σ H Q (I.wish _) hw) (fun _ _ ⟨H', I', q⟩ => ⟨H', I'.unwish, q⟩) fun _ _ z => False.elim z
theorem PSs.nox {st : List Stmt} {t : TS} (h : PSs X.nox st t) : PSs X st t := fun pins s σ H D I hw =>
  wpAny_mono (h pins s σ H D (I.wish _) hw) (fun _ _ q => q.unwish) fun _ _ z => False.elim z
end

/-! ### blocks and small statements -/
section
variable {X : Cx} {st : Stmt} {rest : List Stmt} {t u : TS} {e : Expr} {te : TE} {pos : Pos}
def tNext : TS := fun D σ H => D.nx σ H
def tSeq (t u : TS) : TS := fun D σ H => t { D with nx := u D } σ H
theorem pss_nil : PSs X [] tNext := fun _ _ σ H _ I h => wpAny_execs_nil ⟨σ, H, I, h⟩
theorem pss_cons (h1 : PS X st t) (h2 : PSs X rest u) : PSs X (st :: rest) (tSeq t u) := by
  intro pins s σ H D I h
  refine wpAny_execs_cons (thn (h1 pins s σ H { D with nx := u D } I h) fun f s1 q => ?_)
  cases f with
  | next =>
    obtain ⟨σ', H', I', q⟩ := q
    exact h2 pins s1 σ' H' D I' q
  | ret v => exact q
  | brk => exact q
  | cont => exact q
theorem pss_one (h1 : PS X st t) : PSs X [st] t := by
  intro pins s σ H D I h
  refine wpAny_execs_cons (thn (h1 pins s σ H D I h) fun f s1 q => ?_)
  cases f with
  | next => exact wpAny_execs_nil q
  | ret v => exact q
  | brk => exact q
  | cont => exact q
def tBreak : TS := fun D σ H => D.bk σ H
def tCont : TS := fun D σ H => D.ct σ H
theorem ps_pass : PS X (.Pass pos) tNext := fun _ _ σ H _ I h => wpAny_Pass ⟨σ, H, I, h⟩
theorem ps_break : PS X (.Break pos) tBreak := fun _ _ σ H _ I h => wpAny_Break ⟨σ, H, I, h⟩
theorem ps_continue : PS X (.Continue pos) tCont := fun _ _ σ H _ I h => wpAny_Continue ⟨σ, H, I, h⟩
/-- in a def's body nothing is shown -/
theorem Inv.quiet {pins : List (Addr × Obj)} {σ : St} {H : Hp} {s : Shared} (I : Inv X pins σ H s) : interactive X.env = false := by simp [interactive, I.ok.kind]
/-- a docstring -/
theorem ps_doc {x j pos pos'} : PS X (.Expr (.Constant (.str x) j pos) pos') tNext := fun _ s σ H _ I h => wpAny_Expr (Calls.Constant_str (show SP X _ _ .next { s with toks := s.toks + 1 } from ⟨σ, H, I.tok _, h⟩)) I.quiet
/-- an expression whose value is dropped -/
def tDrop (te : TE) : TS := fun D σ H => te σ H fun _ H1 => D.nx σ H1
theorem ps_expr (he : PE X e te) (hs : swapsWith e none pos.line X.env = pure false := by rfl) : PS X (.Expr e pos) (tDrop te) := by
  intro pins s σ H D I h
  exact wpAny_Expr_any (thn (he pins s σ H _ I h) fun v s1 ⟨x, H1, I1, r1, q1⟩ => ⟨σ, H1, I1, q1⟩) I.quiet hs
def tRet (te : TE) : TS := fun D σ H => te σ H D.rt
theorem ps_ret (he : PE X e te) : PS X (.Return (some e) pos) (tRet te) := by
  intro pins s σ H D I h
  exact wpAny_Return_some (thn (he pins s σ H _ I h) fun v s1 ⟨x, H1, I1, r1, q1⟩ => ⟨x, σ, H1, I1, r1, q1⟩)
def tRetN : TS := fun D _ H => D.rt .non H
theorem ps_retN : PS X (.Return none pos) tRetN := fun _ _ σ H _ I h => wpAny_Return_none ⟨.non, σ, H, I, rfl, h⟩
def tIfS (c : TT) (t u : TS) : TS := fun D σ H => c σ H fun b H1 => if b = true then t D σ H1 else u D σ H1
theorem ps_if {c : Expr} {a b : List Stmt} {tc : TT} (hc : PT X c tc) (ha : PSs X a t) (hb : PSs X b u) : PS X (.If c a b pos) (tIfS tc t u) := by
  intro pins s σ H D I h
  refine wpAny_If (thn (hc pins s σ H _ I h) fun d s1 ⟨H1, I1, q1⟩ => ?_)
  cases d with
  | true => exact ha pins s1 σ H1 D I1 q1
  | false => exact hb pins s1 σ H1 D I1 q1
/-- code that the proof never comes to -/
def tNever : TS := fun _ _ _ => False
theorem ps_never : PS X st tNever := fun _ _ _ _ _ _ h => h.elim
theorem pss_never {sts : List Stmt} : PSs X sts tNever := fun _ _ _ _ _ _ h => h.elim
end

/-! ### targets -/
abbrev TG := V → St → Hp → (St → Hp → Prop) → Prop
abbrev TGs := List V → St → Hp → (St → Hp → Prop) → Prop
def PG (X : Cx) (target : Expr) (t : TG) : Prop :=
  ∀ (pins : List (Addr × Obj)) (s : Shared) (σ : St) (H : Hp) (v : V) (u : Value) (Q : St → Hp → Prop), Inv X pins σ H s → RelV v u → t v σ H Q →
    wpAny (model X.prog X.w) X.A (assign target X.env u) (fun _ s' => ∃ σ' H', Inv X pins σ' H' s' ∧ Q σ' H') X.xe s
/-- several targets, one after another -/
def PGs (X : Cx) (ts : List Expr) (t : TGs) : Prop :=
  ∀ (pins : List (Addr × Obj)) (s : Shared) (σ : St) (H : Hp) (vs : List V) (us : List Value) (Q : St → Hp → Prop), Inv X pins σ H s → Vals vs us → t vs σ H Q →
    wpAny (model X.prog X.w) X.A (assignInOrder ((assignEach ts X.env).map (·.2)) us) (fun _ s' => ∃ σ' H', Inv X pins σ' H' s' ∧ Q σ' H') X.xe s
/-- o[i] = v, by values -/
abbrev TSet := V → V → V → Hp → (Hp → Prop) → Prop
def PSet (X : Cx) (t : TSet) : Prop :=
  ∀ (pins : List (Addr × Obj)) (s : Shared) (σ : St) (H : Hp) (o i v : V) (ov iv u : Value) (Q : Hp → Prop), Inv X pins σ H s → RelV o ov → RelV i iv → RelV v u → t o i v H Q →
    wpAny (model X.prog X.w) X.A (setItem ov iv u) (fun _ s' => ∃ H', Inv X pins σ H' s' ∧ Q H') X.xe s
/-- a op= b, by values -/
abbrev TIp := V → V → Hp → VK → Prop
def PIp (X : Cx) (op : Operator) (t : TIp) : Prop :=
  ∀ (pins : List (Addr × Obj)) (s : Shared) (σ : St) (H : Hp) (x y : V) (v u : Value) (Q : VK), Inv X pins σ H s → RelV x v → RelV y u → t x y H Q →
    wpAny (model X.prog X.w) X.A (inplaceOp op v u) (EP X pins σ Q) X.xe s
section
variable {X : Cx} {pos : Pos}
def gName (i : Nat) : TG := fun v σ H Q => Q (σ.set i (some v)) H
theorem pg_name {i : Nat} {x : Str} (hN : X.N.Nodup) (hi : X.N[i]? = some x) (hx : Loc X.env.scope x) (hf : X.fn x = true ∨ X.env.scope.names.lookup x = some .local := by first | exact .inl rfl | exact .inr rfl | assumption) : PG X (.Name x pos) (gName i) := by
  intro pins s σ H v u Q I r h
  exact wpAny_assign_Name (store_ok I hN hi hx r (fun s' I' => ⟨_, H, I', h⟩) hf)
def gNil : TGs := fun vs σ H Q => vs = [] ∧ Q σ H
def gCons (t : TG) (u : TGs) : TGs := fun vs σ H Q => ∃ v r, vs = v :: r ∧ t v σ H fun σ' H' => u r σ' H' Q
theorem pgs_nil : PGs X [] gNil := by
  intro pins s σ H vs us Q I r h
  obtain ⟨e, h⟩ := h
  subst e
  cases r
  exact assignInOrder_nil ⟨σ, H, I, h⟩
theorem pgs_cons {e : Expr} {es : List Expr} {t : TG} {u : TGs} (h1 : PG X e t) (h2 : PGs X es u)
    (hs : (assignEach (e :: es) X.env).map (·.2) = assign e X.env :: (assignEach es X.env).map (·.2) := by rfl) : PGs X (e :: es) (gCons t u) := by
  intro pins s σ H vs us Q I r h
  obtain ⟨v, vr, e1, h⟩ := h
  subst e1
  cases r with
  | cons r rr =>
    rw [hs]
    refine assignInOrder_cons (thn (h1 pins s σ H _ _ _ I r h) fun _ s1 ⟨σ1, H1, I1, q1⟩ => ?_)
    exact h2 pins s1 σ1 H1 _ _ Q I1 rr q1
/-- (a, b, ..) = a tuple of that length -/
def gTup (K : PySem.W.Frag) (n : Nat) (t : TGs) : TG := fun v σ H Q => ∃ a xs, v = .ref a ∧ SqT K H a xs ∧ xs.length = n ∧ t xs σ H Q
theorem pg_tup {es : List Expr} {k : Nat} {t : TGs} {n : Nat} (hc : X.calm = true) (h : PGs X es t)
    (hn : (assignEach es X.env).length = n := by rfl) (hst : (assignEach es X.env).findIdx? (·.1) = none := by rfl) : PG X (.Tuple es k pos) (gTup X.K n t) := by
  intro pins s σ H v u Q I r hw
  obtain ⟨a, xs, e1, hq, hl, hw⟩ := hw
  subst e1
  cases r
  obtain ⟨its, rv, ht, hz⟩ := I.tuple hq
  refine assign_Tuple_tuple (I.ok.hd hc) ht (by simp [hn, ← hl, rv.length]) hst fun h' hx => ?_
  have I1 : Inv X pins σ H { s with heap := h' } := I.kept (t' := s.toks) fun b o e => hx b o (Nat.ne_of_lt (Heap.lt_size e)) e
  exact h pins _ σ H xs _ Q I1 (by simpa using rv) hw
/-- o[i] = .. -/
def gSub (to ti : TE) (t : TSet) : TG := fun v σ H Q => to σ H fun o H1 => ti σ H1 fun i H2 => t o i v H2 fun H3 => Q σ H3
theorem pg_sub {o i : Expr} {to ti : TE} {t : TSet} (ho : PE X o to) (hi : PE X i ti) (hs : PSet X t)
    (ha : ∀ v, assign (.Subscript o i pos) X.env v = (do
      let ov ← holding [v] (eval o X.env)
      let iv ← holding [v, ov] (eval i X.env)
      standAt pos
      holding [v, ov, iv] (setItem ov iv v)
      release [v, ov, iv] []) := by intro _; rfl) : PG X (.Subscript o i pos) (gSub to ti t) := by
  intro pins s σ H v u Q I r h
  rw [ha]
  refine wpAny_bind (wpAny_holding (thn (ho pins s σ H _ I h) fun ov s1 ⟨x, H1, I1, r1, q1⟩ => ?_))
  refine wpAny_bind (wpAny_holding (thn (hi pins s1 σ H1 _ I1 q1) fun iv s2 ⟨y, H2, I2, r2, q2⟩ => ?_))
  refine wpAny_bind (wpAny_standAt (wpAny_bind (wpAny_holding (thn (hs pins s2 σ H2 x y v ov iv u _ I2 r1 r2 r q2) fun _ s3 ⟨H3, I3, q3⟩ => ?_))))
  exact wpAny_release ⟨σ, H3, I3, q3⟩
/-- target = value -/
def tAsg (te : TE) (g : TG) : TS := fun D σ H => te σ H fun x H1 => g x σ H1 D.nx
theorem ps_asg {tg e : Expr} {te : TE} {g : TG} (he : PE X e te) (hg : PG X tg g) (hs : swapsWithSole [tg] e pos.line X.env = pure false := by rfl) (hw : swappedStores [tg] e X.env = pure none := by rfl)
    (h1 : (assignEach [tg] X.env).map (·.2) = [assign tg X.env] := by rfl) : PS X (.Assign [tg] e pos) (tAsg te g) := by
  intro pins s σ H D I h
  refine wpAny_Assign_stores (thn (he pins s σ H _ I h) fun v s1 ⟨x, H1, I1, r1, q1⟩ => ?_) hs hw
  rw [h1]
  exact thn (hg pins s1 σ H1 x v _ I1 r1 q1) fun _ s2 q => q
/-- name = value -/
theorem ps_set {i : Nat} {x : Str} {e : Expr} {te : TE} {pos' : Pos} (hN : X.N.Nodup) (hi : X.N[i]? = some x) (hx : Loc X.env.scope x) (he : PE X e te) (hs : swapsWith e (some (.Name x pos')) pos.line X.env = pure false := by rfl) (hf : X.fn x = true ∨ X.env.scope.names.lookup x = some .local := by first | exact .inl rfl | exact .inr rfl | assumption) :
    PS X (.Assign [.Name x pos'] e pos) (tAsg te (gName i)) := by
  intro pins s σ H D I h
  refine wpAny_Assign_Name (thn (he pins s σ H _ I h) fun v s1 ⟨y, H1, I1, r1, q1⟩ => ?_) hs
  exact store_ok I1 hN hi hx r1 (fun s2 I2 => ⟨_, H1, I2, q1⟩) hf
/-- a, b = x, y with plain local names: stored from the right; the pair itself is not tracked (the opening rows as in PyProof/Rows/TupAssign.lean:23) -/
def tPar (i j : Nat) (ta : TA) : TS := fun D σ H => ta σ H fun vs H1 => ∃ v w, vs = [v, w] ∧ D.nx ((σ.set i (some v)).set j (some w)) H1
theorem ps_par {i j : Nat} {x y : Str} {a b : Expr} {ta : TA} {px py pt : Pos} {kt k2 pt2} (hc : X.calm = true) (hN : X.N.Nodup) (hi : X.N[i]? = some x) (hj : X.N[j]? = some y) (hij : i ≠ j)
    (hx : X.env.scope.names.lookup x = some .local) (hy : X.env.scope.names.lookup y = some .local) (ha : PA X [a, b] ta)
    (hw : swappedStores [.Tuple [.Name x px, .Name y py] kt pt] (.Tuple [a, b] k2 pt2) X.env = pure (some [x, y]))
    (hs : swapsWithSole [.Tuple [.Name x px, .Name y py] kt pt] (.Tuple [a, b] k2 pt2) pos.line X.env = pure false := by rfl) :
    PS X (.Assign [.Tuple [.Name x px, .Name y py] kt pt] (.Tuple [a, b] k2 pt2) pos) (tPar i j ta) := by
  intro pins s σ H D I h
  rw [exec_Assign_arm]
  refine wpAny_bind (wpAny_standAt ?_)
  rw [hs]
  refine wpAny_bind (wpAny_pure ?_)
  rw [if_neg (by decide)]
  refine wpAny_bind (Tuple_ (thn (ha _ pins s σ H _ I h) fun us s1 ⟨vs, H1, I1, r1, q1⟩ => ?_))
  obtain ⟨v, w, e1, q1⟩ := q1
  subst e1
  obtain ⟨u1, u2, rfl, rv, rw'⟩ : ∃ u1 u2, us = [u1, u2] ∧ RelV v u1 ∧ RelV w u2 := by
    cases r1 with
    | cons p q =>
      cases q with
      | cons p' q' =>
        cases q'
        exact ⟨_, _, rfl, p, p'⟩
  refine wpAny_newObj_type ?_ (by show 2 ≤ sizeLine; decide)
  have I2 : Inv X pins σ H1 { s1 with heap := s1.heap.push { cls := .type "tuple", data := .seq [u1, u2].toArray } } := I1.kept (t' := s1.toks) fun b o e => Heap.get?_push_of_some _ e
  rw [hw]
  refine wpAny_bind (wpAny_pure ?_)
  show wpAny (model X.prog X.w) X.A (do rule "assign.swapped-stores"; let items ← unpackItems (.ref s1.heap.objs.size) 2 none; assignInOrder [fun v => bindName X.env y v, fun v => bindName X.env x v] items.reverse; pure Flow.next) _ _ _
  refine wpAny_bind (wpAny_rule (wpAny_bind (unpackItems_tuple (items := #[u1, u2]) (I.ok.hd hc) (IsTup.new s1.heap _) fun h' hx' => ?_)))
  have I3 := I2.kept (h' := h') (t' := s1.toks) fun b o e => hx' b o (Nat.ne_of_lt (Heap.lt_size e)) e
  show wpAny _ _ (assignInOrder [fun v => bindName X.env y v, fun v => bindName X.env x v] [u2, u1] >>= fun _ => pure Flow.next) _ _ _
  refine wpAny_bind (assignInOrder_cons (wpAny_bindName (store_ok I3 hN hj (.inl hy) rw' (fun s2 I4 => ?_) (.inr hy))))
  refine assignInOrder_cons (wpAny_bindName (store_ok I4 hN hi (.inl hx) rv (fun s3 I5 => assignInOrder_nil (wpAny_pure ?_)) (.inr hx)))
  rw [List.set_comm _ _ (Ne.symm hij)] at I5
  exact ⟨_, H1, I5, q1⟩
/-- name op= e -/
def tAug (i : Nat) (te : TE) (ti : TIp) : TS := fun D σ H => ∃ x, σ[i]? = some (some x) ∧ te σ H fun y H1 => ti x y H1 fun z H2 => D.nx (σ.set i (some z)) H2
theorem ps_aug {i : Nat} {x : Str} {e : Expr} {te : TE} {op : Operator} {ti : TIp} {pos' : Pos} (hN : X.N.Nodup) (hi : X.N[i]? = some x) (hx : Loc X.env.scope x) (he : PE X e te) (ho : PIp X op ti) (hf : X.fn x = true ∨ X.env.scope.names.lookup x = some .local := by first | exact .inl rfl | exact .inr rfl | assumption) :
    PS X (.AugAssign (.Name x pos') op e pos) (tAug i te ti) := by
  intro pins s σ H D I h
  obtain ⟨v, e1, h⟩ := h
  obtain ⟨m, hn, hl⟩ := I.loc
  have vis : Vis X.env.scope x := by rcases hx with k | k; exact .inl k; exact .inr (.inl k)
  obtain ⟨u, r, l⟩ := hl i x v hi e1 vis
  refine wpAny_AugAssign_Name ?_
  have go : wpAny (model X.prog X.w) X.A (eval e X.env) (fun w s₂ => wpAny (model X.prog X.w) X.A (inplaceOp op u w) (fun r s₃ => wpAny (model X.prog X.w) X.A (storeName X.env x r) (fun _ => SP X pins D .next) X.xe s₃) X.xe s₂) X.xe s := by
    refine thn (he pins s σ H _ I h) fun w s1 ⟨y, H1, I1, r1, q1⟩ => ?_
    refine thn (ho pins s1 σ H1 v y u w _ I1 r r1 q1) fun z s2 ⟨zv, H2, I2, r2, q2⟩ => ?_
    exact store_ok I2 hN hi hx r2 (fun s3 I3 => ⟨_, H2, I3, q2⟩) hf
  rcases l with ⟨hk, hm⟩ | ⟨hk, c, hc, hcell⟩
  · exact wpAny_loadName_local I.ok.kind hk hn hm go
  · rcases hk with hk | hk
    · exact wpAny_loadName_cell I.ok.kind hk hc hcell go
    · rcases hx with k | k
      · have : X.env.scope.names.lookup x = some .free := hk
        rw [k] at this; cases this
      · have : X.env.scope.names.lookup x = some .free := hk
        rw [k] at this; cases this
/-- o[i] op= e -/
def tAugS (to ti te : TE) (tget : V → V → Hp → VK → Prop) (tip : TIp) (tset : TSet) : TS := fun D σ H => to σ H fun o H1 => ti σ H1 fun i H2 => tget o i H2 fun x H3 => te σ H3 fun y H4 => tip x y H4 fun z H5 => tset o i z H5 fun H6 => D.nx σ H6
/-- o[i], by values -/
def PGet (X : Cx) (t : V → V → Hp → VK → Prop) : Prop :=
  ∀ (pins : List (Addr × Obj)) (s : Shared) (σ : St) (H : Hp) (o i : V) (ov iv : Value) (Q : VK), Inv X pins σ H s → RelV o ov → RelV i iv → t o i H Q →
    wpAny (model X.prog X.w) X.A (getItem ov iv) (EP X pins σ Q) X.xe s
theorem ps_augS {o i e : Expr} {to ti te : TE} {tget : V → V → Hp → VK → Prop} {tip : TIp} {tset : TSet} {op : Operator} {tpos : Pos} (ho : PE X o to) (hi : PE X i ti) (hg : PGet X tget) (he : PE X e te) (hp : PIp X op tip) (hs : PSet X tset)
    (ha : ∀ ov iv new, augStore i ov iv new = (do holding [new, ov, iv] (setItem ov iv new); release [new, ov, iv] []; pure .next) := by intros; rfl) : PS X (.AugAssign (.Subscript o i tpos) op e pos) (tAugS to ti te tget tip tset) := by
  intro pins s σ H D I h
  refine wpAny_AugAssign_SubscriptAny (thn (ho pins s σ H _ I h) fun ov s1 ⟨x1, H1, I1, r1, q1⟩ => ?_) ha
  refine thn (hi pins s1 σ H1 _ I1 q1) fun iv s2 ⟨x2, H2, I2, r2, q2⟩ => ?_
  refine thn (hg pins s2 σ H2 x1 x2 ov iv _ I2 r1 r2 q2) fun old s3 ⟨x3, H3, I3, r3, q3⟩ => ?_
  refine thn (he pins s3 σ H3 _ I3 q3) fun v s4 ⟨x4, H4, I4, r4, q4⟩ => ?_
  refine thn (hp pins s4 σ H4 x3 x4 old v _ I4 r3 r4 q4) fun new s5 ⟨x5, H5, I5, r5, q5⟩ => ?_
  exact thn (hs pins s5 σ H5 x1 x2 x5 ov iv new _ I5 r1 r2 r5 q5) fun _ s6 ⟨H6, I6, q6⟩ => ⟨σ, H6, I6, q6⟩
/-- ints -/
def ipI (f : Int → Int → Int) : TIp := fun x y H Q => ∃ i j, x = .int i ∧ y = .int j ∧ Q (.int (f i j)) H
theorem ip_add : PIp X .Add (ipI fun i j => i + j) := by
  intro pins s σ H x y v u Q I r1 r2 h
  obtain ⟨i, j, e1, e2, q⟩ := h
  subst e1; subst e2
  obtain ⟨t, rfl⟩ := r1
  obtain ⟨t', rfl⟩ := r2
  exact iadd_int ⟨.int _, H, I.tok _, ⟨_, rfl⟩, q⟩
theorem ip_sub : PIp X .Sub (ipI fun i j => i - j) := by
  intro pins s σ H x y v u Q I r1 r2 h
  obtain ⟨i, j, e1, e2, q⟩ := h
  subst e1; subst e2
  obtain ⟨t, rfl⟩ := r1
  obtain ⟨t', rfl⟩ := r2
  exact isub_int ⟨.int _, H, I.tok _, ⟨_, rfl⟩, q⟩
end

/-! ### while -/
section
variable {X : Cx} {pos : Pos}
/-- the invariant W with its measure -/
def tWhile (c : TT) (tb : TS) : TS := fun D σ H => ∃ W : Nat → St → Hp → Prop, (∃ m, W m σ H) ∧ ∀ m σ H, W m σ H →
  c σ H fun b H1 => if b = true then ∃ N : St → Hp → Prop, (∀ σ' H', N σ' H' → ∃ m', m' < m ∧ W m' σ' H') ∧ tb { D with nx := N, ct := N, bk := D.nx } σ H1 else D.nx σ H1
theorem ps_while {c : Expr} {body : List Stmt} {tc : TT} {tb : TS} (hp : PassesOwn (model X.prog X.w) X.A X.env X.xe) (hc : PT X c tc) (hb : PSs X body tb) : PS X (.While c body [] pos) (tWhile tc tb) := by
  intro pins s σ H D I h
  obtain ⟨W, ⟨m0, w0⟩, turn⟩ := h
  refine wpAny_While (codeAny_whileLoop (fun n s' => ∃ σ' H', Inv X pins σ' H' s' ∧ W n σ' H') ?_ m0 ⟨σ, H, I, w0⟩)
  rintro n s1 ⟨σ1, H1, I1, w1⟩
  refine wpAny_passesOwn hp (thn (hc pins s1 σ1 H1 _ I1 (turn n σ1 H1 w1)) fun b s2 ⟨H2, I2, q2⟩ => ?_)
  cases b with
  | true =>
    obtain ⟨N, hN, q2⟩ := q2
    rw [if_pos rfl]
    refine wpAny_passesOwn hp (thn (hb pins s2 σ1 H2 _ I2 q2) fun f s3 q3 => ?_)
    cases f with
    | next =>
      obtain ⟨σ3, H3, I3, n3⟩ := q3
      obtain ⟨m', hm, w3⟩ := hN σ3 H3 n3
      exact ⟨m', hm, σ3, H3, I3, w3⟩
    | cont =>
      obtain ⟨σ3, H3, I3, n3⟩ := q3
      obtain ⟨m', hm, w3⟩ := hN σ3 H3 n3
      exact ⟨m', hm, σ3, H3, I3, w3⟩
    | brk => exact q3
    | ret v => exact q3
  | false =>
    rw [if_neg Bool.false_ne_true]
    exact wpAny_execs_nil ⟨σ1, H2, I2, q2⟩
end

/-! ### what a loop or a comprehension walks -/
/-- at turn i: it yields x (the heap may grow), or it stops -/
structure It where
  go : Nat → Hp → Prop
  yld : Nat → Hp → V → Hp → Prop
  stop : Nat → Hp → Prop
/-- the iterator's own objects may turn: they are not the frame's, not pinned, younger than the entry (or a comprehension's own) -/
def FpOk (X : Cx) (pins : List (Addr × Obj)) (H : Hp) (b : Addr) : Prop :=
  H b = none ∧ b ≠ X.env.locals ∧ b ∉ X.fs ∧ (b ∈ X.ex ∨ X.s₀.heap.objs.size ≤ b) ∧ (∀ x c, X.env.cells.lookup x = some c → c ≠ b) ∧ ∀ p ∈ X.pn ++ pins, p.1 ≠ b
theorem Inv.fpOk {X : Cx} {pins : List (Addr × Obj)} {σ : St} {H H' : Hp} {s : Shared} {b : Addr} (I : Inv X pins σ H s) (hb : s.heap.objs.size ≤ b) (hn : H' b = none) : FpOk X pins H' b := by
  refine ⟨hn, Nat.ne_of_gt (Nat.lt_of_lt_of_le I.lt hb), I.nofs hb, .inr (Nat.le_trans I.sz hb), fun x c e z => ?_, fun p hp z => ?_⟩
  · obtain ⟨v, q⟩ := I.cell x c e
    exact absurd (Nat.lt_of_lt_of_le q.lt (by rw [z]; exact hb)) (Nat.lt_irrefl _)
  · exact absurd (Nat.lt_of_lt_of_le (Heap.lt_size (I.pin p hp).1) (by rw [z]; exact hb)) (Nat.lt_irrefl _)
structure Turn (P : Program) (w : World) (K : PySem.W.Frag) (tg : Expr) (J : It) (fp : List Addr) (it : Addr) (tn : Nat → Heap → Prop) : Prop where
  mem : it ∈ fp
  obj : ∀ i h, tn i h → ∀ b ∈ fp, ∃ o, h.get? b = some o ∧ ∀ v, o.data ≠ .cell v
  keep : ∀ i h h', tn i h → (∀ b ∈ fp, ∀ o, h.get? b = some o → h'.get? b = some o) → tn i h'
  item : ∀ (X : Cx), X.prog = P → X.w = w → X.K = K → X.calm = true → ∀ (i : Nat) (pins : List (Addr × Obj)) (s : Shared) (σ : St) (H : Hp) (E : Value → Shared → Prop), Inv X pins σ H s → (∀ b ∈ fp, FpOk X pins H b) → tn i s.heap → J.go i H →
    wpAny (model P w) X.A (pyNext (.ref it)) (fun r s1 => ∃ u, r = some u ∧
      wpAny (model P w) X.A (letOwnedTupleGo tg (.ref it) u) (fun _ s2 => ∃ x H', Inv X pins σ H' s2 ∧ RelV x u ∧ J.yld i H x H' ∧ tn (i + 1) s2.heap ∧ ∀ b ∈ fp, H' b = none) E s1) E s
  done : ∀ (X : Cx), X.prog = P → X.w = w → X.K = K → X.calm = true → ∀ (i : Nat) (pins : List (Addr × Obj)) (s : Shared) (σ : St) (H : Hp) (E : Value → Shared → Prop), Inv X pins σ H s → (∀ b ∈ fp, FpOk X pins H b) → tn i s.heap → J.stop i H →
    wpAny (model P w) X.A (pyNext (.ref it)) (fun r s1 => r = none ∧ Inv X pins σ H s1) E s
  self : ∀ (A : Around) (i : Nat) (s : Shared) (Q : Value → Shared → Prop) (E : Value → Shared → Prop), tn i s.heap → Q (.ref it) s → wpAny (model P w) A (pyIter (.ref it)) Q E s
abbrev TI := St → Hp → (It → Hp → Prop) → Prop
/-- an iterator has come -/
def PIE (X : Cx) (pins : List (Addr × Obj)) (σ : St) (tg : Expr) (R : It → Hp → Prop) (itv : Value) (s2 : Shared) : Prop :=
  ∃ (it : Addr) (fp : List Addr) (tn : Nat → Heap → Prop) (J : It) (H' : Hp), itv = .ref it ∧ Inv X pins σ H' s2 ∧ Turn X.prog X.w X.K tg J fp it tn ∧ tn 0 s2.heap ∧ (∀ b ∈ fp, FpOk X pins H' b) ∧ R J H'
def PI (X : Cx) (tg iter : Expr) (wi : TI) : Prop :=
  ∀ (pins : List (Addr × Obj)) (s : Shared) (σ : St) (H : Hp) (R : It → Hp → Prop), Inv X pins σ H s → wi σ H R →
    wpAny (model X.prog X.w) X.A (eval iter X.env) (fun v s1 => wpAny (model X.prog X.w) X.A (pyIter v) (PIE X pins σ tg R) X.xe s1) X.xe s

/-- the step ahead of the store is nothing for an iterator that keeps no tuple -/
theorem go_of {M : Model} {A : Around} {E : Value → Shared → Prop} {s : Shared} {tg : Expr} {it : Addr} {u : Value} {o : Obj} {n : String} {vs : Array Value} {Q : Unit → Shared → Prop} (ho : s.heap.get? it = some o) (hc : o.cls = .type n) (hd : o.data = .fields vs)
    (hn : ["enumerate", "zip", "dict_itemiterator", "dict_reverseitemiterator", "odict_iterator", "itertools.zip_longest", "itertools.pairwise"].contains n = false) (hQ : Q () s) : wpAny M A (letOwnedTupleGo tg (.ref it) u) Q E s := by
  unfold letOwnedTupleGo
  cases tg <;> first
    | exact wpAny_pure hQ
    | (cases u <;> first
        | exact wpAny_pure hQ
        | (refine wpAny_bind (wpAny_load ho ?_)
           rw [hc, hd]
           show wpAny M A (if (["enumerate", "zip", "dict_itemiterator", "dict_reverseitemiterator", "odict_iterator", "itertools.zip_longest", "itertools.pairwise"].contains n && vs[0]? == some (rawInt _)) = true then _ else _) Q E s
           rw [if_neg (by intro h; rw [hn, Bool.false_and] at h; cases h)]
           exact wpAny_pure hQ))

/-- the list at a, as it stands at each turn (a loop may append to it) -/
def Itl (K : PySem.W.Frag) (a : Addr) : It :=
  ⟨fun i H => ∃ xs x, SqL K H a xs ∧ xs[i]? = some x, fun i H x H' => H' = H ∧ ∀ xs, SqL K H a xs → xs[i]? = some x, fun i H => ∃ xs, SqL K H a xs ∧ xs.length ≤ i⟩
def Itt (K : PySem.W.Frag) (a : Addr) : It :=
  ⟨fun i H => ∃ xs x, SqT K H a xs ∧ xs[i]? = some x, fun i H x H' => H' = H ∧ ∀ xs, SqT K H a xs → xs[i]? = some x, fun i H => ∃ xs, SqT K H a xs ∧ xs.length ≤ i⟩
/-- lo, lo + 1, .. (n of them) -/
def Itr (lo : Int) (n : Nat) : It := ⟨fun i _ => i < n, fun i H x H' => H' = H ∧ x = .int (lo + i), fun i _ => n ≤ i⟩
theorem turn_list {P : Program} {w : World} {K : PySem.W.Frag} {tg : Expr} (a it : Addr) : Turn P w K tg (Itl K a) [it] it (fun i h => h.IsListIter it a i) where
  mem := by simp
  obj := fun i h st b hb => by
    have e : b = it := by simpa using hb
    subst e
    obtain ⟨o, e, c, d⟩ := st
    exact ⟨o, e, fun v z => by rw [d] at z; cases z⟩
  keep := fun i h h' st k => st.at fun o e => k it (by simp) o e
  item := by
    intro X hP hw hK hc i pins s σ H E I hf st hg
    subst hP hw hK
    obtain ⟨xs, x, hq, hx⟩ := hg
    obtain ⟨its, rv, p, hz⟩ := I.list hq
    obtain ⟨u, hu, ru⟩ := rv.get hx
    obtain ⟨f0, f1, f2, f3, f4, f5⟩ := hf it (by simp)
    refine wpAny_pyNext_list_item st p.isList (x := u) (by simpa using hu) fun h' st' sb => ?_
    have I1 : Inv X pins σ H { s with heap := h' } := I.turned (t' := s.toks) (fun b o hb e => (sb.2 b hb).trans e) f0 f1 f3 f4 f5
    obtain ⟨o, e, c, d⟩ := id st'
    exact ⟨u, rfl, go_of (s := { s with heap := h' }) e c d (by decide) ⟨x, H, I1, ru, ⟨rfl, fun ys hy => by rw [I.list_inj hy hq]; exact hx⟩, st', fun b hb => (hf b hb).1⟩⟩
  done := by
    intro X hP hw hK hc i pins s σ H E I hf st hg
    subst hP hw hK
    obtain ⟨xs, hq, hx⟩ := hg
    obtain ⟨its, rv, p, hz⟩ := I.list hq
    obtain ⟨f0, f1, f2, f3, f4, f5⟩ := hf it (by simp)
    have hl := rv.length
    exact wpAny_pyNext_list_end (I.ok.hd hc) st p.isList (by simp; omega) fun h' eb => ⟨rfl, I.turned (t' := s.toks) (fun b o hb e => eb b o hb e) f0 f1 f3 f4 f5⟩
  self := fun _ _ _ _ _ st h => wpAny_pyIter_listiter st h
theorem turn_tuple {P : Program} {w : World} {K : PySem.W.Frag} {tg : Expr} (a it : Addr) : Turn P w K tg (Itt K a) [it] it (fun i h => h.IsTupleIter it a i) where
  mem := by simp
  obj := fun i h st b hb => by
    have e : b = it := by simpa using hb
    subst e
    obtain ⟨o, e, c, d⟩ := st
    exact ⟨o, e, fun v z => by rw [d] at z; cases z⟩
  keep := fun i h h' st k => st.at fun o e => k it (by simp) o e
  item := by
    intro X hP hw hK hc i pins s σ H E I hf st hg
    subst hP hw hK
    obtain ⟨xs, x, hq, hx⟩ := hg
    obtain ⟨its, rv, p, hz⟩ := I.tuple hq
    obtain ⟨u, hu, ru⟩ := rv.get hx
    obtain ⟨f0, f1, f2, f3, f4, f5⟩ := hf it (by simp)
    refine wpAny_pyNext_tuple_item st (show s.heap.IsTuple a its.toArray from p) (x := u) (by simpa using hu) fun h' st' sb => ?_
    have I1 : Inv X pins σ H { s with heap := h' } := I.turned (t' := s.toks) (fun b o hb e => (sb.2 b hb).trans e) f0 f1 f3 f4 f5
    obtain ⟨o, e, c, d⟩ := id st'
    exact ⟨u, rfl, go_of (s := { s with heap := h' }) e c d (by decide) ⟨x, H, I1, ru, ⟨rfl, fun ys hy => by rw [I.tuple_inj hy hq]; exact hx⟩, st', fun b hb => (hf b hb).1⟩⟩
  done := by
    intro X hP hw hK hc i pins s σ H E I hf st hg
    subst hP hw hK
    obtain ⟨xs, hq, hx⟩ := hg
    obtain ⟨its, rv, p, hz⟩ := I.tuple hq
    obtain ⟨f0, f1, f2, f3, f4, f5⟩ := hf it (by simp)
    have hl := rv.length
    exact wpAny_pyNext_tuple_end (I.ok.hd hc) st (show s.heap.IsTuple a its.toArray from p) (by simp; omega) fun h' eb => ⟨rfl, I.turned (t' := s.toks) (fun b o hb e => eb b o hb e) f0 f1 f3 f4 f5⟩
  self := fun _ _ _ _ _ st h => wpAny_pyIter_tupleiter st h
theorem turn_range {P : Program} {w : World} {K : PySem.W.Frag} {tg : Expr} (it : Addr) (lo : Int) (n : Nat) : Turn P w K tg (Itr lo n) [it] it (fun i h => IsRangeIter h it (lo + (i : Nat) * 1) ((n : Int) - (i : Nat)) 1) where
  mem := by simp
  obj := fun i h st b hb => by
    have e : b = it := by simpa using hb
    subst e
    exact ⟨_, st, fun v z => by
      have z' : Data.fields _ = Data.cell v := z
      cases z'⟩
  keep := fun i h h' st k => k it (by simp) _ st
  item := by
    intro X hP hw hK hc i pins s σ H E I hf st hg
    subst hP hw hK
    obtain ⟨f0, f1, f2, f3, f4, f5⟩ := hf it (by simp)
    have W := Walks.range (prog := X.prog) (w := X.w) (I.ok.hd hc) it lo 1 n
    refine W.item i s _ _ hg st fun v h' tk hv st' kk => ?_
    obtain ⟨t, rfl⟩ := hv
    have I1 : Inv X pins σ H { s with heap := h', toks := tk } := I.turned (fun b o hb e => kk b o (by simpa using hb) e) f0 f1 f3 f4 f5
    refine ⟨_, rfl, go_of (s := { s with heap := h', toks := tk }) (n := "range_iterator") st' rfl rfl (by decide) ⟨.int (lo + i), H, I1, ⟨t, ?_⟩, ⟨rfl, rfl⟩, st', fun b hb => (hf b hb).1⟩⟩
    rw [Int.mul_one]
  done := by
    intro X hP hw hK hc i pins s σ H E I hf st hg
    subst hP hw hK
    obtain ⟨f0, f1, f2, f3, f4, f5⟩ := hf it (by simp)
    exact wpAny_pyNext_range_end (I.ok.hd hc) st (by have : n ≤ i := hg; omega) fun h' eb => ⟨rfl, I.turned (t' := s.toks) (fun b o hb e => eb b o hb e) f0 f1 f3 f4 f5⟩
  self := fun _ _ _ _ _ st h => wpAny_pyIter_rangeiter st h
end L2

namespace L2
open PySem PySem.Spec PyProof.Rows
section
variable {X : Cx} {tg : Expr}
def iList (K : PySem.W.Frag) (tl : TE) : TI := fun σ H R => tl σ H fun x H1 => ∃ a, x = .ref a ∧ (∃ xs, SqL K H1 a xs) ∧ R (Itl K a) H1
def iTup (K : PySem.W.Frag) (tl : TE) : TI := fun σ H R => tl σ H fun x H1 => ∃ a, x = .ref a ∧ (∃ xs, SqT K H1 a xs) ∧ R (Itt K a) H1
theorem pi_list {l : Expr} {tl : TE} (hl : PE X l tl) : PI X tg l (iList X.K tl) := by
  intro pins s σ H R I h
  refine thn (hl pins s σ H _ I h) fun v s1 ⟨x, H1, I1, r1, q1⟩ => ?_
  obtain ⟨a, e, ⟨xs, hq⟩, q⟩ := q1
  subst e
  cases r1
  obtain ⟨its, rv, p, hz⟩ := I1.list hq
  refine wpAny_pyIter_list p.isList ?_
  refine ⟨s1.heap.objs.size, [s1.heap.objs.size], _, _, H1, rfl, I1.kept (t' := s1.toks) fun b o e => Heap.get?_push_of_some _ e, turn_list a _, ⟨_, Heap.get?_push_size _ rfl, rfl, rfl⟩, fun b hb => ?_, q⟩
  have e : b = s1.heap.objs.size := by simpa using hb
  subst e
  exact I1.fpOk (Nat.le_refl _) (I1.hok.fresh (Nat.le_refl _))
theorem pi_tup {l : Expr} {tl : TE} (hl : PE X l tl) : PI X tg l (iTup X.K tl) := by
  intro pins s σ H R I h
  refine thn (hl pins s σ H _ I h) fun v s1 ⟨x, H1, I1, r1, q1⟩ => ?_
  obtain ⟨a, e, ⟨xs, hq⟩, q⟩ := q1
  subst e
  cases r1
  obtain ⟨its, rv, p, hz⟩ := I1.tuple hq
  refine wpAny_pyIter_tuple (show s1.heap.IsTuple a its.toArray from p) ?_
  refine ⟨s1.heap.objs.size, [s1.heap.objs.size], _, _, H1, rfl, I1.kept (t' := s1.toks) fun b o e => Heap.get?_push_of_some _ e, turn_tuple a _, ⟨_, Heap.get?_push_size _ rfl, rfl, rfl⟩, fun b hb => ?_, q⟩
  have e : b = s1.heap.objs.size := by simpa using hb
  subst e
  exact I1.fpOk (Nat.le_refl _) (I1.hok.fresh (Nat.le_refl _))
/-- a range object just made, walked -/
theorem range_it {pins : List (Addr × Obj)} {σ : St} {H : Hp} {s : Shared} {R : It → Hp → Prop} {E : Value → Shared → Prop} {lo hi : Int} {t u v : Tok} {tk : Nat} (I : Inv X pins σ H s) (h1 : -(2 ^ 62) ≤ lo) (h2 : lo < 2 ^ 62) (h3 : -(2 ^ 62) ≤ hi) (h4 : hi < 2 ^ 62)
    (q : R (Itr lo (hi - lo).toNat) H) : wpAny (model X.prog X.w) X.A (pyIter (.ref s.heap.objs.size)) (PIE X pins σ tg R) E { s with heap := s.heap.push { cls := .type "range", data := .fields #[.int lo t, .int hi u, .int 1 v] }, toks := tk } := by
  refine wpAny_pyIter_range (IsRange.new ..) (small_one h1 h2 h3 h4) ?_
  have I1 : Inv X pins σ H { s with heap := s.heap.push { cls := .type "range", data := .fields #[.int lo t, .int hi u, .int 1 v] }, toks := tk } := I.kept fun b o e => Heap.get?_push_of_some _ e
  refine ⟨(s.heap.push { cls := .type "range", data := .fields #[.int lo t, .int hi u, .int 1 v] }).objs.size, [(s.heap.push { cls := .type "range", data := .fields #[.int lo t, .int hi u, .int 1 v] }).objs.size], _, _, H, rfl,
    I1.kept (t' := tk) fun b o e => Heap.get?_push_of_some _ e, turn_range _ lo (hi - lo).toNat, ?_, fun b hb => ?_, q⟩
  · have e1 : lo + ((0 : Nat) : Int) * 1 = lo := by simp
    have e2 : (((hi - lo).toNat : Nat) : Int) - ((0 : Nat) : Int) = Builtin.Range.rangeSize lo hi 1 := by rw [rangeSize_one]; split <;> omega
    show IsRangeIter _ _ (lo + ((0 : Nat) : Int) * 1) ((((hi - lo).toNat : Nat) : Int) - ((0 : Nat) : Int)) 1
    rw [e1, e2]
    exact Heap.get?_push_size _ rfl
  · have e : b = (s.heap.push { cls := .type "range", data := .fields #[.int lo t, .int hi u, .int 1 v] }).objs.size := by simpa using hb
    subst e
    exact I1.fpOk (Nat.le_refl _) (I1.hok.fresh (Nat.le_refl _))
def iRng1 (ta : TA) : TI := fun σ H R => ta σ H fun vs H1 => ∃ j : Int, vs = [.int j] ∧ -(2 ^ 62) ≤ j ∧ j < 2 ^ 62 ∧ R (Itr 0 j.toNat) H1
def iRng2 (ta : TA) : TI := fun σ H R => ta σ H fun vs H1 => ∃ i j : Int, vs = [.int i, .int j] ∧ (-(2 ^ 62) ≤ i ∧ i < 2 ^ 62 ∧ -(2 ^ 62) ≤ j ∧ j < 2 ^ 62) ∧ R (Itr i (j - i).toNat) H1
theorem pi_range1 {a : Expr} {ta : TA} {p pos : Pos} (hg : Gl X "range") (hm : X.mg "range" = none) (ha : PA X [a] ta) (hs : starEach [a] X.env = [(false, eval a X.env)] := by rfl) : PI X tg (.Call (.Name "range" p) [a] [] pos) (iRng1 ta) := by
  intro pins s σ H R I h
  refine Call_ (ld_blt I hg hm boot_range (PyProof.Rows.callWith_type1 (thn (ha pos pins s σ H _ I h) fun us s1 ⟨vs, H1, I1, r1, q1⟩ => ?_) hs rfl))
  obtain ⟨j, e, q1, q2, q⟩ := q1
  subst e
  cases r1 with
  | cons r rr =>
    cases rr
    obtain ⟨t, rfl⟩ := r
    exact call_range_1 (range_it I1 (by omega) (by omega) q1 q2 (by simpa using q))
theorem pi_range2 {a b : Expr} {ta : TA} {p pos : Pos} (hg : Gl X "range") (hm : X.mg "range" = none) (ha : PA X [a, b] ta) (hs : starEach [a, b] X.env = [(false, eval a X.env), (false, eval b X.env)] := by rfl) (hs2 : starEach [b] X.env = [(false, eval b X.env)] := by rfl) :
    PI X tg (.Call (.Name "range" p) [a, b] [] pos) (iRng2 ta) := by
  intro pins s σ H R I h
  refine Call_ (ld_blt I hg hm boot_range (PyProof.Rows.callWith_type1 (thn (ha pos pins s σ H _ I h) fun us s1 ⟨vs, H1, I1, r1, q1⟩ => ?_) (by rw [hs, hs2]) (by rw [hs2]; rfl)))
  obtain ⟨i, j, e, ⟨q1, q2, q3, q4⟩, q⟩ := q1
  subst e
  cases r1 with
  | cons r rr =>
    cases rr with
    | cons r' rr =>
      cases rr
      obtain ⟨t, rfl⟩ := r
      obtain ⟨t', rfl⟩ := r'
      exact call_range_2 (range_it I1 q1 q2 q3 q4 q)

/-! ### for -/
/-- W: the invariant by the turn and a measure; N: what the body is to reach -/
def tFor (wi : TI) (g : TG) (tb : TS) : TS := fun D σ H => wi σ H fun J H1 => ∃ W : Nat → Nat → St → Hp → Prop, (∃ m, W 0 m σ H1) ∧ ∀ i m σ H, W i m σ H →
  (J.stop i H ∧ D.nx σ H) ∨ (J.go i H ∧ ∃ N : St → Hp → Prop, (∀ σ' H', N σ' H' → ∃ m', m' < m ∧ W (i + 1) m' σ' H') ∧ ∀ x H', J.yld i H x H' → g x σ H' fun σ2 H2 => tb { D with nx := N, ct := N, bk := D.nx } σ2 H2)
/-- the records at fp as they stand -/
def pinsAt (fp : List Addr) (h : Heap) : List (Addr × Obj) := fp.filterMap fun b => (h.get? b).map fun o => (b, o)
theorem mem_pinsAt {fp : List Addr} {h : Heap} {b : Addr} {o : Obj} (hb : b ∈ fp) (e : h.get? b = some o) : (b, o) ∈ pinsAt fp h := List.mem_filterMap.mpr ⟨b, hb, by rw [e]; rfl⟩
theorem of_pinsAt {fp : List Addr} {h : Heap} {p : Addr × Obj} (hp : p ∈ pinsAt fp h) : p.1 ∈ fp ∧ h.get? p.1 = some p.2 := by
  obtain ⟨b, hb, e⟩ := List.mem_filterMap.mp hp
  cases q : h.get? b with
  | none => rw [q] at e; cases e
  | some o =>
    rw [q] at e
    have e' : (b, o) = p := Option.some.inj e
    subst e'
    exact ⟨hb, q⟩
theorem Inv.pinned {pins : List (Addr × Obj)} {σ : St} {H : Hp} {s : Shared} {fp : List Addr} (I : Inv X pins σ H s) (hf : ∀ b ∈ fp, FpOk X pins H b) (ho : ∀ b ∈ fp, ∃ o, s.heap.get? b = some o ∧ ∀ v, o.data ≠ .cell v) : Inv X (pins ++ pinsAt fp s.heap) σ H s :=
  I.pins_of fun p hp => (List.mem_append.mp hp).elim (fun z => I.pin p (List.mem_append_right _ z)) fun z => by
    obtain ⟨hb, e⟩ := of_pinsAt z
    obtain ⟨f0, f1, f2, _⟩ := hf p.1 hb
    obtain ⟨o, e', d⟩ := ho p.1 hb
    rw [e] at e'; cases e'
    exact ⟨e, f0, f1, f2, d⟩
theorem Inv.unpinned {pins pl : List (Addr × Obj)} {σ : St} {H : Hp} {s : Shared} (I : Inv X (pins ++ pl) σ H s) : Inv X pins σ H s := I.pins_of fun p hp => I.pin p (List.mem_append_right _ (List.mem_append_left _ hp))
theorem ps_for {iter : Expr} {body : List Stmt} {wi : TI} {g : TG} {tb : TS} {pos : Pos} (hp : PassesOwn (model X.prog X.w) X.A X.env X.xe) (hc : X.calm = true) (hi : PI X tg iter wi) (hg : PG X tg g) (hb : PSs X body tb)
    (hs : ∀ x, foldedSetIterable iter X.env x = pure x := by intro _; rfl) : PS X (.For tg iter body [] pos) (tFor wi g tb) := by
  intro pins s σ H D I h
  refine wpAny_For (thn (hi pins s σ H _ I h) fun v s1 h1 => thn h1 fun itv s2 h2 => ?_) hs
  obtain ⟨it, fp, tn, J, H2, e, I2, T, st2, f2, W, ⟨m0, w0⟩, turn⟩ := h2
  subst e
  -- what stays true of the iterator's objects through the loop
  have stat : ∀ {H' : Hp}, (∀ b ∈ fp, H' b = none) → ∀ b ∈ fp, FpOk X pins H' b := fun hn b hb => ⟨hn b hb, (f2 b hb).2⟩
  refine codeAny_forLoop_any (fun n s' => ∃ i σ' H', Inv X pins σ' H' s' ∧ tn i s'.heap ∧ (∀ b ∈ fp, H' b = none) ∧ W i n σ' H') ?_ m0 ⟨0, σ, H2, I2, st2, fun b hb => (f2 b hb).1, w0⟩
  rintro n s3 ⟨i, σ3, H3, I3, st3, fr3, w3⟩
  rcases turn i n σ3 H3 w3 with ⟨stop, qn⟩ | ⟨go, N, hN, step⟩
  · refine wpAny_passesOwn hp (thn (T.done X rfl rfl rfl hc i pins s3 σ3 H3 X.xe I3 (stat fr3) st3 stop) fun r s4 ⟨hr, I4⟩ => ?_)
    subst hr
    exact wpAny_execs_nil ⟨σ3, H3, I4, qn⟩
  · refine wpAny_passesOwn hp (thn (T.item X rfl rfl rfl hc i pins s3 σ3 H3 X.xe I3 (stat fr3) st3 go) fun r s4 ⟨u, hr, h4⟩ => ?_)
    subst hr
    refine wpAny_passesOwn hp (thn h4 fun _ s5 ⟨x, H5, I5, r5, y5, st5, fr5⟩ => ?_)
    have I5' := I5.pinned (stat fr5) (T.obj _ _ st5)
    refine wpAny_passesOwn hp (thn (hg _ s5 σ3 H5 x u _ I5' r5 (step x H5 y5)) fun _ s6 ⟨σ6, H6, I6, q6⟩ => ?_)
    refine wpAny_passesOwn hp (thn (hb _ s6 σ6 H6 _ I6 q6) fun f s7 q7 => ?_)
    have again : ∀ {σ7 : St} {H7 : Hp}, Inv X (pins ++ pinsAt fp s5.heap) σ7 H7 s7 → N σ7 H7 → ∃ m, m < n ∧ ∃ i σ' H', Inv X pins σ' H' s7 ∧ tn i s7.heap ∧ (∀ b ∈ fp, H' b = none) ∧ W i m σ' H' := fun {σ7 H7} I7 n7 => by
      obtain ⟨m', hm, w7⟩ := hN σ7 H7 n7
      refine ⟨m', hm, i + 1, σ7, H7, I7.unpinned, T.keep _ _ _ st5 fun b hb o e => (I7.pin (b, o) (List.mem_append_right _ (List.mem_append_right _ (mem_pinsAt hb e)))).1, fun b hb => ?_, w7⟩
      obtain ⟨o, e, d⟩ := T.obj _ _ st5 b hb
      exact (I7.pin (b, o) (List.mem_append_right _ (List.mem_append_right _ (mem_pinsAt hb e)))).2.1
    cases f with
    | next => obtain ⟨σ7, H7, I7, n7⟩ := q7; exact again I7 n7
    | cont => obtain ⟨σ7, H7, I7, n7⟩ := q7; exact again I7 n7
    | brk => obtain ⟨σ7, H7, I7, q7⟩ := q7; exact ⟨σ7, H7, I7.unpinned, q7⟩
    | ret v => obtain ⟨x7, σ7, H7, I7, r7, q7⟩ := q7; exact ⟨x7, σ7, H7, I7.unpinned, r7, q7⟩
end

/-! ### the forms one uses -/
/-- over a list that the body leaves as it is -/
theorem for_list {K : PySem.W.Frag} {a : Addr} {xs : List V} {g : TG} {tb : TS} {D : Ends} {σ : St} {H : Hp} (Pv : Nat → St → Hp → Prop) (h0 : Pv 0 σ H) (hl : ∀ i σ H, i ≤ xs.length → Pv i σ H → SqL K H a xs)
    (hs : ∀ i x σ H, xs[i]? = some x → Pv i σ H → g x σ H fun σ2 H2 => tb { D with nx := Pv (i + 1), ct := Pv (i + 1), bk := D.nx } σ2 H2) (hd : ∀ σ H, Pv xs.length σ H → D.nx σ H) :
    ∃ W : Nat → Nat → St → Hp → Prop, (∃ m, W 0 m σ H) ∧ ∀ i m σ H, W i m σ H →
      ((Itl K a).stop i H ∧ D.nx σ H) ∨ ((Itl K a).go i H ∧ ∃ N : St → Hp → Prop, (∀ σ' H', N σ' H' → ∃ m', m' < m ∧ W (i + 1) m' σ' H') ∧ ∀ x H', (Itl K a).yld i H x H' → g x σ H' fun σ2 H2 => tb { D with nx := N, ct := N, bk := D.nx } σ2 H2) := by
  refine ⟨fun i m σ H => m = xs.length - i ∧ i ≤ xs.length ∧ Pv i σ H, ⟨xs.length, by simp, Nat.zero_le _, h0⟩, ?_⟩
  rintro i m σ H ⟨rfl, hi, p⟩
  have q := hl i σ H hi p
  by_cases hlt : i < xs.length
  · refine .inr ⟨⟨xs, xs[i], q, by simp [hlt]⟩, Pv (i + 1), fun σ' H' p' => ⟨xs.length - (i + 1), by omega, rfl, hlt, p'⟩, fun x H' y => ?_⟩
    obtain ⟨e, y⟩ := y
    subst e
    exact hs i x σ _ (y xs q) p
  · have e : i = xs.length := by omega
    subst e
    exact .inl ⟨⟨xs, q, Nat.le_refl _⟩, hd σ H p⟩
theorem for_tup {K : PySem.W.Frag} {a : Addr} {xs : List V} {g : TG} {tb : TS} {D : Ends} {σ : St} {H : Hp} (Pv : Nat → St → Hp → Prop) (h0 : Pv 0 σ H) (hl : ∀ i σ H, i ≤ xs.length → Pv i σ H → SqT K H a xs)
    (hs : ∀ i x σ H, xs[i]? = some x → Pv i σ H → g x σ H fun σ2 H2 => tb { D with nx := Pv (i + 1), ct := Pv (i + 1), bk := D.nx } σ2 H2) (hd : ∀ σ H, Pv xs.length σ H → D.nx σ H) :
    ∃ W : Nat → Nat → St → Hp → Prop, (∃ m, W 0 m σ H) ∧ ∀ i m σ H, W i m σ H →
      ((Itt K a).stop i H ∧ D.nx σ H) ∨ ((Itt K a).go i H ∧ ∃ N : St → Hp → Prop, (∀ σ' H', N σ' H' → ∃ m', m' < m ∧ W (i + 1) m' σ' H') ∧ ∀ x H', (Itt K a).yld i H x H' → g x σ H' fun σ2 H2 => tb { D with nx := N, ct := N, bk := D.nx } σ2 H2) := by
  refine ⟨fun i m σ H => m = xs.length - i ∧ i ≤ xs.length ∧ Pv i σ H, ⟨xs.length, by simp, Nat.zero_le _, h0⟩, ?_⟩
  rintro i m σ H ⟨rfl, hi, p⟩
  have q := hl i σ H hi p
  by_cases hlt : i < xs.length
  · refine .inr ⟨⟨xs, xs[i], q, by simp [hlt]⟩, Pv (i + 1), fun σ' H' p' => ⟨xs.length - (i + 1), by omega, rfl, hlt, p'⟩, fun x H' y => ?_⟩
    obtain ⟨e, y⟩ := y
    subst e
    exact hs i x σ _ (y xs q) p
  · have e : i = xs.length := by omega
    subst e
    exact .inl ⟨⟨xs, q, Nat.le_refl _⟩, hd σ H p⟩
theorem for_range {lo : Int} {n : Nat} {g : TG} {tb : TS} {D : Ends} {σ : St} {H : Hp} (Pv : Nat → St → Hp → Prop) (h0 : Pv 0 σ H)
    (hs : ∀ i σ H, i < n → Pv i σ H → g (.int (lo + i)) σ H fun σ2 H2 => tb { D with nx := Pv (i + 1), ct := Pv (i + 1), bk := D.nx } σ2 H2) (hd : ∀ σ H, Pv n σ H → D.nx σ H) :
    ∃ W : Nat → Nat → St → Hp → Prop, (∃ m, W 0 m σ H) ∧ ∀ i m σ H, W i m σ H →
      ((Itr lo n).stop i H ∧ D.nx σ H) ∨ ((Itr lo n).go i H ∧ ∃ N : St → Hp → Prop, (∀ σ' H', N σ' H' → ∃ m', m' < m ∧ W (i + 1) m' σ' H') ∧ ∀ x H', (Itr lo n).yld i H x H' → g x σ H' fun σ2 H2 => tb { D with nx := N, ct := N, bk := D.nx } σ2 H2) := by
  refine ⟨fun i m σ H => m = n - i ∧ i ≤ n ∧ Pv i σ H, ⟨n, by simp, Nat.zero_le _, h0⟩, ?_⟩
  rintro i m σ H ⟨rfl, hi, p⟩
  by_cases hlt : i < n
  · refine .inr ⟨hlt, Pv (i + 1), fun σ' H' p' => ⟨n - (i + 1), by omega, rfl, hlt, p'⟩, fun x H' y => ?_⟩
    obtain ⟨e, y⟩ := y
    subst e y
    exact hs i σ _ hlt p
  · have e : i = n := by omega
    subst e
    exact .inl ⟨Nat.le_refl _, hd σ H p⟩
/-- while, by a word and a measure of the state -/
theorem while_by {c : TT} {tb : TS} {D : Ends} {σ : St} {H : Hp} (Pv : St → Hp → Prop) (μ : St → Hp → Nat) (h0 : Pv σ H)
    (hs : ∀ σ H, Pv σ H → c σ H fun b H1 => if b = true then tb { D with nx := fun σ' H' => Pv σ' H' ∧ μ σ' H' < μ σ H, ct := fun σ' H' => Pv σ' H' ∧ μ σ' H' < μ σ H, bk := D.nx } σ H1 else D.nx σ H1)
    (mono : ∀ σ H Q Q', (∀ b H1, Q b H1 → Q' b H1) → c σ H Q → c σ H Q') : tWhile c tb D σ H := by
  refine ⟨fun m σ H => m = μ σ H ∧ Pv σ H, ⟨_, rfl, h0⟩, ?_⟩
  rintro m σ H ⟨rfl, p⟩
  refine mono σ H _ _ (fun b H1 q => ?_) (hs σ H p)
  cases b with
  | true => exact ⟨_, fun σ' H' ⟨p', l⟩ => ⟨_, l, rfl, p'⟩, q⟩
  | false => exact q
end L2

namespace L2
open PySem PySem.Spec PyProof.Rows

abbrev R2 := V → V → Hp → VK → Prop
/-- a two-place operation on values: f is binaryOp op, inplaceOp op or compareOp op -/
def OpR (X : Cx) (f : Value → Value → Sem Value) (r : R2) : Prop :=
  ∀ (pins : List (Addr × Obj)) (s : Shared) (σ : St) (H : Hp) (x y : V) (v u : Value) (Q : VK), Inv X pins σ H s → RelV x v → RelV y u → r x y H Q →
    wpAny (model X.prog X.w) X.A (f v u) (EP X pins σ Q) X.xe s
/-- a one-place operation -/
def UnR (X : Cx) (f : Value → Sem Value) (r : V → Hp → VK → Prop) : Prop :=
  ∀ (pins : List (Addr × Obj)) (s : Shared) (σ : St) (H : Hp) (x : V) (v : Value) (Q : VK), Inv X pins σ H s → RelV x v → r x H Q →
    wpAny (model X.prog X.w) X.A (f v) (EP X pins σ Q) X.xe s
/-- a call of a value that is known (a builtin, a type) with values -/
def CallR (X : Cx) (f : Value) (r : List V → Hp → VK → Prop) : Prop :=
  ∀ (pins : List (Addr × Obj)) (s : Shared) (σ : St) (H : Hp) (xs : List V) (us : List Value) (Q : VK), Inv X pins σ H s → Vals xs us → r xs H Q →
    wpAny (model X.prog X.w) X.A (call f us) (EP X pins σ Q) X.xe s
/-- a value's truth -/
def TruR (X : Cx) (r : V → Hp → (Bool → Hp → Prop) → Prop) : Prop :=
  ∀ (pins : List (Addr × Obj)) (s : Shared) (σ : St) (H : Hp) (x : V) (v : Value) (Q : Bool → Hp → Prop), Inv X pins σ H s → RelV x v → r x H Q →
    wpAny (model X.prog X.w) X.A (truthy v) (TP X pins σ Q) X.xe s

def tOp (r : R2) (ta tb : TE) : TE := fun σ H Q => ta σ H fun x H1 => tb σ H1 fun y H2 => r x y H2 Q
def tUn (r : V → Hp → VK → Prop) (ta : TE) : TE := fun σ H Q => ta σ H fun x H1 => r x H1 Q
/-- ints in, under C, and a value out -/
def rI (C : Int → Int → Prop) (g : Int → Int → V) : R2 := fun x y H Q => ∃ i j, x = .int i ∧ y = .int j ∧ C i j ∧ Q (g i j) H
def rI0 (g : Int → Int → V) : R2 := fun x y H Q => ∃ i j, x = .int i ∧ y = .int j ∧ Q (g i j) H
def rU (g : Int → V) : V → Hp → VK → Prop := fun x H Q => ∃ i, x = .int i ∧ Q (g i) H

section
variable {X : Cx} {a b c : Expr} {ta tb tc : TE} {pos : Pos}

theorem binT (ha : PE X a ta) (hb : PE X b tb) {pins : List (Addr × Obj)} {s : Shared} {σ : St} {H : Hp} {R : V → V → Hp → Prop} (I : Inv X pins σ H s)
    (h : ta σ H fun x H1 => tb σ H1 fun y H2 => R x y H2) {Q : Value → Shared → Prop} {f : Value → Value → Sem Value}
    (hf : ∀ v u s2 x y H2, Inv X pins σ H2 s2 → RelV x v → RelV y u → R x y H2 → wpAny (model X.prog X.w) X.A (f v u) Q X.xe s2) :
    wpAny (model X.prog X.w) X.A (eval a X.env) (fun v s₁ => wpAny (model X.prog X.w) X.A (eval b X.env) (fun u s₂ => wpAny (model X.prog X.w) X.A (f v u) Q X.xe s₂) X.xe s₁) X.xe s := by
  refine thn (ha pins s σ H _ I h) fun v s1 ⟨x, H1, I1, r1, q1⟩ => ?_
  refine thn (hb pins s1 σ H1 _ I1 q1) fun u s2 ⟨y, H2, I2, r2, q2⟩ => ?_
  exact hf v u s2 x y H2 I2 r1 r2 q2

theorem pe_op {op : Operator} {r : R2} (ho : OpR X (binaryOp op) r) (ha : PE X a ta) (hb : PE X b tb) : PE X (.BinOp a op b pos) (tOp r ta tb) := by
  intro pins s σ H Q I h
  exact wpAny_BinOp (binT ha hb I h fun v u s2 x y H2 I2 rx ry q => ho pins s2 σ H2 x y v u Q I2 rx ry q)
theorem pe_un {op : UnaryOp} {r : V → Hp → VK → Prop} (ho : UnR X (unaryOp op) r) (ha : PE X a ta) : PE X (.UnaryOp op a pos) (tUn r ta) := by
  intro pins s σ H Q I h
  exact UnaryOp_ (thn (ha pins s σ H _ I h) fun v s1 ⟨x, H1, I1, r1, q1⟩ => ho pins s1 σ H1 x v Q I1 r1 q1)
/-- a op= e at a name: the name's slot i -/
theorem augR {op : Operator} {r : R2} (ho : OpR X (inplaceOp op) r) {pins : List (Addr × Obj)} {s : Shared} {σ : St} {H : Hp} {x y : V} {v u : Value} {Q : VK} (I : Inv X pins σ H s)
    (rx : RelV x v) (ry : RelV y u) (q : r x y H Q) : wpAny (model X.prog X.w) X.A (inplaceOp op v u) (EP X pins σ Q) X.xe s := ho pins s σ H x y v u Q I rx ry q

/-! ### ints -/
theorem opI {f : Value → Value → Sem Value} {C : Int → Int → Prop} {g : Int → Int → Int}
    (rule : ∀ (i j : Int) (t u : Tok) (s : Shared) (Q : Value → Shared → Prop) (E : Value → Shared → Prop), C i j → Q (.int (g i j) s.toks) { s with toks := s.toks + 1 } → wpAny (model X.prog X.w) X.A (f (.int i t) (.int j u)) Q E s) :
    OpR X f (rI C fun i j => .int (g i j)) := by
  intro pins s σ H x y v u Q I rx ry h
  obtain ⟨i, j, rfl, rfl, hc, q⟩ := h
  obtain ⟨t, rfl⟩ := rx
  obtain ⟨t', rfl⟩ := ry
  exact rule i j t t' s _ _ hc ⟨.int (g i j), H, I.tok _, ⟨_, rfl⟩, q⟩
theorem opI0 {f : Value → Value → Sem Value} {g : Int → Int → Int}
    (rule : ∀ (i j : Int) (t u : Tok) (s : Shared) (Q : Value → Shared → Prop) (E : Value → Shared → Prop), Q (.int (g i j) s.toks) { s with toks := s.toks + 1 } → wpAny (model X.prog X.w) X.A (f (.int i t) (.int j u)) Q E s) :
    OpR X f (rI0 fun i j => .int (g i j)) := by
  intro pins s σ H x y v u Q I rx ry h
  obtain ⟨i, j, rfl, rfl, q⟩ := h
  obtain ⟨t, rfl⟩ := rx
  obtain ⟨t', rfl⟩ := ry
  exact rule i j t t' s _ _ ⟨.int (g i j), H, I.tok _, ⟨_, rfl⟩, q⟩
theorem opB0 {f : Value → Value → Sem Value} {g : Int → Int → Bool}
    (rule : ∀ (i j : Int) (t u : Tok) (s : Shared) (Q : Value → Shared → Prop) (E : Value → Shared → Prop), Q (.bool (g i j)) s → wpAny (model X.prog X.w) X.A (f (.int i t) (.int j u)) Q E s) :
    OpR X f (rI0 fun i j => .bl (g i j)) := by
  intro pins s σ H x y v u Q I rx ry h
  obtain ⟨i, j, rfl, rfl, q⟩ := h
  obtain ⟨t, rfl⟩ := rx
  obtain ⟨t', rfl⟩ := ry
  exact rule i j t t' s _ _ ⟨.bl (g i j), H, I, rfl, q⟩

def CDiv (i j : Int) : Prop := 0 < j ∧ j < 1073741824
def CDivN (i j : Int) : Prop := j ≠ 0 ∧ j.natAbs < 1073741824
def CPow (i j : Int) : Prop := 0 ≤ j ∧ j ≤ 1000000 ∧ i.natAbs < 2 ^ 64
def CMul (i j : Int) : Prop := (-(2 ^ 64) < i ∧ i < 2 ^ 64) ∨ (-(2 ^ 64) < j ∧ j < 2 ^ 64)
theorem CMul.ok {i j : Int} (h : CMul i j) : IntMulOk i j := by
  rcases h with ⟨h1, h2⟩ | ⟨h1, h2⟩
  · exact .of_left (intBits_le_64 h1 h2)
  · exact .of_right (intBits_le_64 h1 h2)
theorem two_pow_nn (k : Nat) : (0 : Int) ≤ 2 ^ k := by
  rw [two_pow_cast]
  exact Int.natCast_nonneg _

theorem op_add : OpR X (binaryOp .Add) (rI0 fun i j => .int (i + j)) := opI0 fun _ _ _ _ _ _ _ q => add_int q
theorem op_sub : OpR X (binaryOp .Sub) (rI0 fun i j => .int (i - j)) := opI0 fun _ _ _ _ _ _ _ q => sub_int q
theorem op_mul : OpR X (binaryOp .Mult) (rI CMul fun i j => .int (i * j)) := opI fun _ _ _ _ _ _ _ hc q => mul_int q hc.ok
/-- // by a positive divisor -/
theorem op_fdiv : OpR X (binaryOp .FloorDiv) (rI CDiv fun i j => .int (i / j)) := opI fun i j _ _ _ _ _ hc q => by
  have h1 : (0 : Int) < j := hc.1
  have h2 : j < 1073741824 := hc.2
  exact floordiv_int (by omega) (by rw [Int.fdiv_eq_ediv_of_nonneg i (by omega)]; exact q) (.inl (PyProof.noPylong_small (by omega)))
theorem op_fdivN : OpR X (binaryOp .FloorDiv) (rI CDivN fun i j => .int (i.fdiv j)) := opI fun _ _ _ _ _ _ _ hc q => floordiv_int hc.1 q (.inl (PyProof.noPylong_small hc.2))
/-- % by a positive divisor of any size -/
theorem op_mod : OpR X (binaryOp .Mod) (rI (fun _ j => 0 < j) fun i j => .int (i % j)) := opI fun i j _ _ _ _ _ hc q => by
  have h1 : (0 : Int) < j := hc
  exact mod_int' (by omega) (by rw [Int.fmod_eq_emod_of_nonneg i (by omega)]; exact q)
theorem op_modN : OpR X (binaryOp .Mod) (rI (fun _ j => j ≠ 0) fun i j => .int (i.fmod j)) := opI fun _ _ _ _ _ _ _ hc q => mod_int' hc q
theorem op_pow : OpR X (binaryOp .Pow) (rI CPow fun i j => .int (i ^ j.toNat)) := opI fun _ _ _ _ _ _ _ hc q => pow_int_small hc.1 hc.2.1 hc.2.2 q
theorem op_shl : OpR X (binaryOp .LShift) (rI CPow fun i j => .int (i * 2 ^ j.toNat)) := opI fun _ _ _ _ _ _ _ hc q => lshift_int_small hc.1 hc.2.1 hc.2.2 q
theorem op_shr : OpR X (binaryOp .RShift) (rI (fun _ j => 0 ≤ j) fun i j => .int (i / 2 ^ j.toNat)) := opI fun i j _ _ _ _ _ hc q =>
  rshift_int hc (by rw [Int.fdiv_eq_ediv_of_nonneg i (two_pow_nn _)]; exact q)
theorem op_and : OpR X (binaryOp .BitAnd) (rI0 fun i j => .int (Builtin.bitAnd i j)) := opI0 fun _ _ _ _ _ _ _ q => and_int q
theorem op_or : OpR X (binaryOp .BitOr) (rI0 fun i j => .int (Builtin.bitOr i j)) := opI0 fun _ _ _ _ _ _ _ q => or_int q
theorem op_xor : OpR X (binaryOp .BitXor) (rI0 fun i j => .int (Builtin.bitXor i j)) := opI0 fun _ _ _ _ _ _ _ q => xor_int q

theorem iop_add : OpR X (inplaceOp .Add) (rI0 fun i j => .int (i + j)) := opI0 fun _ _ _ _ _ _ _ q => iadd_int q
theorem iop_sub : OpR X (inplaceOp .Sub) (rI0 fun i j => .int (i - j)) := opI0 fun _ _ _ _ _ _ _ q => isub_int q
theorem iop_mul : OpR X (inplaceOp .Mult) (rI CMul fun i j => .int (i * j)) := opI fun _ _ _ _ _ _ _ hc q => imul_int q hc.ok
theorem iop_fdiv : OpR X (inplaceOp .FloorDiv) (rI CDiv fun i j => .int (i / j)) := opI fun i j _ _ _ _ _ hc q => by
  have h1 : (0 : Int) < j := hc.1
  have h2 : j < 1073741824 := hc.2
  exact ifloordiv_int (by omega) (by rw [Int.fdiv_eq_ediv_of_nonneg i (by omega)]; exact q) (.inl (PyProof.noPylong_small (by omega)))
theorem iop_mod : OpR X (inplaceOp .Mod) (rI (fun _ j => 0 < j) fun i j => .int (i % j)) := opI fun i j _ _ _ _ _ hc q => by
  have h1 : (0 : Int) < j := hc
  exact imod_int (by omega) (by rw [Int.fmod_eq_emod_of_nonneg i (by omega)]; exact q)
theorem iop_shl : OpR X (inplaceOp .LShift) (rI CPow fun i j => .int (i * 2 ^ j.toNat)) := opI fun _ _ _ _ _ _ _ hc q => ilshift_int_small hc.1 hc.2.1 hc.2.2 q
theorem iop_shr : OpR X (inplaceOp .RShift) (rI (fun _ j => 0 ≤ j) fun i j => .int (i / 2 ^ j.toNat)) := opI fun i j _ _ _ _ _ hc q =>
  irshift_int hc (by rw [Int.fdiv_eq_ediv_of_nonneg i (two_pow_nn _)]; exact q)
theorem iop_and : OpR X (inplaceOp .BitAnd) (rI0 fun i j => .int (Builtin.bitAnd i j)) := opI0 fun _ _ _ _ _ _ _ q => iand_int q
theorem iop_or : OpR X (inplaceOp .BitOr) (rI0 fun i j => .int (Builtin.bitOr i j)) := opI0 fun _ _ _ _ _ _ _ q => ior_int q
theorem iop_xor : OpR X (inplaceOp .BitXor) (rI0 fun i j => .int (Builtin.bitXor i j)) := opI0 fun _ _ _ _ _ _ _ q => ixor_int q

theorem unI {f : Value → Sem Value} {g : Int → Int}
    (rule : ∀ (i : Int) (t : Tok) (s : Shared) (Q : Value → Shared → Prop) (E : Value → Shared → Prop), Q (.int (g i) s.toks) { s with toks := s.toks + 1 } → wpAny (model X.prog X.w) X.A (f (.int i t)) Q E s) :
    UnR X f (rU fun i => .int (g i)) := by
  intro pins s σ H x v Q I rx h
  obtain ⟨i, rfl, q⟩ := h
  obtain ⟨t, rfl⟩ := rx
  exact rule i t s _ _ ⟨.int (g i), H, I.tok _, ⟨_, rfl⟩, q⟩
theorem un_neg : UnR X (unaryOp .USub) (rU fun i => .int (-i)) := unI fun _ _ _ _ _ q => neg_int q
theorem un_inv : UnR X (unaryOp .Invert) (rU fun i => .int (Builtin.bitNot i)) := unI fun _ _ _ _ _ q => invert_int q

/-! ### bools among ints: n += (a < b) -/
theorem op_add_ib : OpR X (binaryOp .Add) (fun x y H Q => ∃ i k, x = .int i ∧ y = .bl k ∧ Q (.int (i + b2i k)) H) := by
  intro pins s σ H x y v u Q I rx ry h
  obtain ⟨i, k, rfl, rfl, q⟩ := h
  obtain ⟨t, rfl⟩ := rx
  cases ry
  exact add_int_bool ⟨.int (i + b2i k), H, I.tok _, ⟨_, rfl⟩, q⟩
end

/-! ### comparisons -/
/-- the scalars that == tells apart as data does -/
def scal : V → V → Bool
  | .non, .non => true | .non, .int _ => true | .int _, .non => true | .non, .bl _ => true | .bl _, .non => true | .non, .str _ => true | .str _, .non => true
  | .int _, .int _ => true | .bl _, .bl _ => true | .str _, .str _ => true | .byt _, .byt _ => true
  | .int _, .str _ => true | .str _, .int _ => true | .bl _, .str _ => true | .str _, .bl _ => true
  | _, _ => false
def rEq : R2 := fun x y H Q => scal x y = true ∧ Q (.bl (decide (x = y))) H
def rNe : R2 := fun x y H Q => scal x y = true ∧ Q (.bl (!decide (x = y))) H

theorem dec_int {i j : Int} : decide (V.int i = V.int j) = (i == j) := by
  rw [Bool.eq_iff_iff]
  simp
theorem dec_bl {i j : Bool} : decide (V.bl i = V.bl j) = (i == j) := by
  rw [Bool.eq_iff_iff]
  simp
theorem dec_str {i j : Str} : decide (V.str i = V.str j) = (i == j) := by
  rw [Bool.eq_iff_iff]
  simp
theorem dec_byt {i j : Array UInt8} : decide (V.byt i = V.byt j) = (i.toList == j.toList) := by
  rw [Bool.eq_iff_iff]
  cases i
  cases j
  simp

section
variable {X : Cx} {a b c : Expr} {ta tb tc : TE} {pos : Pos}
theorem fin_bl {pins : List (Addr × Obj)} {σ : St} {H : Hp} {s : Shared} {Q : VK} {k k' : Bool} (I : Inv X pins σ H s) (q : Q (.bl k) H) (e : k = k') : EP X pins σ Q (.bool k') s := by
  subst e
  exact ⟨.bl k, H, I, rfl, q⟩
theorem op_eq : OpR X (compareOp .Eq) rEq := by
  intro pins s σ H x y v u Q I rx ry h
  obtain ⟨hs, q⟩ := h
  cases x with
  | non =>
    cases rx
    cases y with
    | non => cases ry; exact PySem.EqNone.eq_none_none (fin_bl I q (by simp))
    | bl j => cases ry; exact PySem.EqNone.eq_none_bool (fin_bl I q (by simp))
    | int j => obtain ⟨t', rfl⟩ := ry; exact PySem.EqNone.eq_none_int (fin_bl I q (by simp))
    | str j => obtain ⟨t', rfl⟩ := ry; exact PySem.EqNone.eq_none_str (fin_bl I q (by simp))
    | _ => exact absurd (show false = true from hs) Bool.false_ne_true
  | bl i =>
    cases rx
    cases y with
    | non => cases ry; exact PySem.EqNone.eq_bool_none (fin_bl I q (by simp))
    | bl j => cases ry; exact eq_bool (fin_bl I q dec_bl)
    | str j => obtain ⟨t', rfl⟩ := ry; exact PySem.EqMixed.eq_bool_str (fin_bl I q (by simp))
    | _ => exact absurd (show false = true from hs) Bool.false_ne_true
  | int i =>
    obtain ⟨t, rfl⟩ := rx
    cases y with
    | non => cases ry; exact PySem.EqNone.eq_int_none (fin_bl I q (by simp))
    | int j => obtain ⟨t', rfl⟩ := ry; exact eq_int (fin_bl I q dec_int)
    | str j => obtain ⟨t', rfl⟩ := ry; exact PySem.EqMixed.eq_int_str (fin_bl I q (by simp))
    | _ => exact absurd (show false = true from hs) Bool.false_ne_true
  | str i =>
    obtain ⟨t, rfl⟩ := rx
    cases y with
    | non => cases ry; exact PySem.EqNone.eq_str_none (fin_bl I q (by simp))
    | bl j => cases ry; exact PySem.EqMixed.eq_str_bool (fin_bl I q (by simp))
    | int j => obtain ⟨t', rfl⟩ := ry; exact PySem.EqMixed.eq_str_int (fin_bl I q (by simp))
    | str j => obtain ⟨t', rfl⟩ := ry; exact eq_str (fin_bl I q dec_str)
    | _ => exact absurd (show false = true from hs) Bool.false_ne_true
  | byt i =>
    obtain ⟨t, rfl⟩ := rx
    cases y with
    | byt j => obtain ⟨t', rfl⟩ := ry; exact PySem.W.eq_bytes (fin_bl I q dec_byt)
    | _ => exact absurd (show false = true from hs) Bool.false_ne_true
  | _ => cases y <;> exact absurd (show false = true from hs) Bool.false_ne_true
theorem op_ne : OpR X (compareOp .NotEq) rNe := by
  intro pins s σ H x y v u Q I rx ry h
  obtain ⟨hs, q⟩ := h
  cases x with
  | non =>
    cases rx
    cases y with
    | non => cases ry; exact PySem.EqNone.ne_none_none (fin_bl I q (by simp))
    | bl j => cases ry; exact PySem.EqNone.ne_none_bool (fin_bl I q (by simp))
    | int j => obtain ⟨t', rfl⟩ := ry; exact PySem.EqNone.ne_none_int (fin_bl I q (by simp))
    | str j => obtain ⟨t', rfl⟩ := ry; exact PySem.EqNone.ne_none_str (fin_bl I q (by simp))
    | _ => exact absurd (show false = true from hs) Bool.false_ne_true
  | bl i =>
    cases rx
    cases y with
    | non => cases ry; exact PySem.EqNone.ne_bool_none (fin_bl I q (by simp))
    | bl j => cases ry; exact ne_bool (fin_bl I q (congrArg not dec_bl))
    | str j => obtain ⟨t', rfl⟩ := ry; exact PySem.EqMixed.ne_bool_str (fin_bl I q (by simp))
    | _ => exact absurd (show false = true from hs) Bool.false_ne_true
  | int i =>
    obtain ⟨t, rfl⟩ := rx
    cases y with
    | non => cases ry; exact PySem.EqNone.ne_int_none (fin_bl I q (by simp))
    | int j => obtain ⟨t', rfl⟩ := ry; exact ne_int (fin_bl I q (congrArg not dec_int))
    | str j => obtain ⟨t', rfl⟩ := ry; exact PySem.EqMixed.ne_int_str (fin_bl I q (by simp))
    | _ => exact absurd (show false = true from hs) Bool.false_ne_true
  | str i =>
    obtain ⟨t, rfl⟩ := rx
    cases y with
    | non => cases ry; exact PySem.EqNone.ne_str_none (fin_bl I q (by simp))
    | bl j => cases ry; exact PySem.EqMixed.ne_str_bool (fin_bl I q (by simp))
    | int j => obtain ⟨t', rfl⟩ := ry; exact PySem.EqMixed.ne_str_int (fin_bl I q (by simp))
    | str j => obtain ⟨t', rfl⟩ := ry; exact ne_str (fin_bl I q (congrArg not dec_str))
    | _ => exact absurd (show false = true from hs) Bool.false_ne_true
  | byt i =>
    obtain ⟨t, rfl⟩ := rx
    cases y with
    | byt j => obtain ⟨t', rfl⟩ := ry; exact PySem.W.ne_bytes (fin_bl I q (congrArg not dec_byt))
    | _ => exact absurd (show false = true from hs) Bool.false_ne_true
  | _ => cases y <;> exact absurd (show false = true from hs) Bool.false_ne_true

theorem op_lt : OpR X (compareOp .Lt) (rI0 fun i j => .bl (decide (i < j))) := opB0 fun _ _ _ _ _ _ _ q => lt_int q
theorem op_le : OpR X (compareOp .LtE) (rI0 fun i j => .bl (decide (i ≤ j))) := opB0 fun _ _ _ _ _ _ _ q => le_int q
theorem op_gt : OpR X (compareOp .Gt) (rI0 fun i j => .bl (decide (j < i))) := opB0 fun _ _ _ _ _ _ _ q => gt_int q
theorem op_ge : OpR X (compareOp .GtE) (rI0 fun i j => .bl (decide (j ≤ i))) := opB0 fun _ _ _ _ _ _ _ q => ge_int q
theorem op_lt_str : OpR X (compareOp .Lt) (fun x y H Q => ∃ i j, x = .str i ∧ y = .str j ∧ Q (.bl (decide (i.cps.toList < j.cps.toList))) H) := by
  intro pins s σ H x y v u Q I rx ry h
  obtain ⟨i, j, rfl, rfl, q⟩ := h
  obtain ⟨t, rfl⟩ := rx
  obtain ⟨t', rfl⟩ := ry
  exact lt_str (fin_bl I q rfl)
/-- the one string within the other -/
theorem op_in_str : OpR X (compareOp .In) (fun x y H Q => ∃ i j, x = .str i ∧ y = .str j ∧ Q (.bl (!(Builtin.Str.occurrences j i 0 j.length 1).isEmpty)) H) := by
  intro pins s σ H x y v u Q I rx ry h
  obtain ⟨i, j, rfl, rfl, q⟩ := h
  obtain ⟨t, rfl⟩ := rx
  obtain ⟨t', rfl⟩ := ry
  exact in_str (fin_bl I q rfl)

/-- is None, is not None: the right side a value none -/
theorem op_isN : OpR X (compareOp .Is) (fun x y H Q => y = .non ∧ Q (.bl (decide (x = .non))) H) := by
  intro pins s σ H x y v u Q I rx ry h
  obtain ⟨rfl, q⟩ := h
  cases ry
  refine is_none_gen (fin_bl I q ?_)
  cases x <;> first
    | (cases rx; rfl)
    | (obtain ⟨t, rfl⟩ := rx; rfl)
theorem op_notN : OpR X (compareOp .IsNot) (fun x y H Q => y = .non ∧ Q (.bl (!decide (x = .non))) H) := by
  intro pins s σ H x y v u Q I rx ry h
  obtain ⟨rfl, q⟩ := h
  cases ry
  refine isnot_none_gen (fin_bl I q ?_)
  cases x <;> first
    | (cases rx; rfl)
    | (obtain ⟨t, rfl⟩ := rx; rfl)

theorem op_notin_str : OpR X (compareOp .NotIn) (fun x y H Q => ∃ i j, x = .str i ∧ y = .str j ∧ Q (.bl (!(!(Builtin.Str.occurrences j i 0 j.length 1).isEmpty))) H) := by
  intro pins s σ H x y v u Q I rx ry h
  obtain ⟨i, j, rfl, rfl, q⟩ := h
  obtain ⟨t, rfl⟩ := rx
  obtain ⟨t', rfl⟩ := ry
  exact notIn_str (fin_bl I q rfl)
/-- is, is not of two objects that are tracked lists or instances -/
def isObj : HO → Bool
  | .lst _ => true
  | .ins _ _ _ => true
  | _ => false
theorem obj_there {pins : List (Addr × Obj)} {s : Shared} {σ : St} {H : Hp} {a : Addr} {o : HO} (I : Inv X pins σ H s) (h : H a = some o) (p : isObj o = true) : ∃ ob, s.heap.get? a = some ob ∧ ob.cls ≠ .type "tuple" := by
  cases o with
  | lst xs =>
    obtain ⟨_, its, n, _, e⟩ : xs.length ≤ sizeLine ∧ ∃ (its : List Value) (n : Nat), Vals xs its ∧ s.heap.get? a = some { cls := .type "list", data := .seq its.toArray n } := I.hok a _ h
    exact ⟨_, e, (by show Value.type "list" ≠ .type "tuple"; decide +kernel)⟩
  | ins C dx fs =>
    have x := I.hok a _ h
    obtain ⟨_, _, _, e, _⟩ := x
    exact ⟨_, e, (by show Value.ref C ≠ .type "tuple"; exact fun z => by cases z)⟩
  | _ => exact absurd (show false = true from p) Bool.false_ne_true
theorem op_is_ref : OpR X (compareOp .Is) (fun x y H Q => ∃ a b oa ob, x = .ref a ∧ y = .ref b ∧ H a = some oa ∧ isObj oa = true ∧ H b = some ob ∧ isObj ob = true ∧ Q (.bl (decide (a = b))) H) := by
  intro pins s σ H x y v u Q I rx ry h
  obtain ⟨a, b, oa, ob, rfl, rfl, ha, pa, hb, pb, q⟩ := h
  cases rx
  cases ry
  obtain ⟨o1, e1, n1⟩ := obj_there I ha pa
  obtain ⟨o2, e2, _⟩ := obj_there I hb pb
  by_cases z : a = b
  · subst z
    exact wpAny_is_ref_self (fin_bl I q (by simp))
  · exact wpAny_is_ref_other z e1 e2 n1 (fin_bl I q (by simp [z]))
theorem op_isnot_ref : OpR X (compareOp .IsNot) (fun x y H Q => ∃ a b oa ob, x = .ref a ∧ y = .ref b ∧ H a = some oa ∧ isObj oa = true ∧ H b = some ob ∧ isObj ob = true ∧ Q (.bl (!decide (a = b))) H) := by
  intro pins s σ H x y v u Q I rx ry h
  obtain ⟨a, b, oa, ob, rfl, rfl, ha, pa, hb, pb, q⟩ := h
  cases rx
  cases ry
  obtain ⟨o1, e1, n1⟩ := obj_there I ha pa
  obtain ⟨o2, e2, _⟩ := obj_there I hb pb
  by_cases z : a = b
  · subst z
    exact wpAny_isNot_ref_self (fin_bl I q (by simp))
  · exact wpAny_isNot_ref_other z e1 e2 n1 (fin_bl I q (by simp [z]))

/-- two rules for one operation: by cases -/
theorem OpR.or {f : Value → Value → Sem Value} {r r' : R2} (h : OpR X f r) (h' : OpR X f r') : OpR X f (fun x y H Q => r x y H Q ∨ r' x y H Q) := by
  intro pins s σ H x y v u Q I rx ry q
  rcases q with q | q
  · exact h pins s σ H x y v u Q I rx ry q
  · exact h' pins s σ H x y v u Q I rx ry q

theorem nomark (b : Expr) {op : CmpOp} (h : op ≠ .In := by decide) (h2 : op ≠ .NotIn := by decide) : behindInMarks op b = false := by
  have e1 : (op == CmpOp.In) = false := by cases op <;> first | rfl | exact absurd rfl h
  have e2 : (op == CmpOp.NotIn) = false := by cases op <;> first | rfl | exact absurd rfl h2
  cases b <;> simp [behindInMarks, e1, e2]
/-- a comparison as a value; hm: nomark b, or (for in, not in) by with_unfolding_all rfl -/
theorem pe_cmpR {op : CmpOp} {r : R2} (ho : OpR X (compareOp op) r) (ha : PE X a ta) (hb : PE X b tb) (hm : behindInMarks op b = false) : PE X (.Compare a [op] [b] pos) (tOp r ta tb) := by
  intro pins s σ H Q I h
  exact wpAny_Compare1 (binT ha hb I h fun v u s2 x y H2 I2 rx ry q => ho pins s2 σ H2 x y v u Q I2 rx ry q) hm
/-- a reading of a value as a test -/
def tTest (t : TE) : TT := fun σ H Q => t σ H fun x H' => ∃ k, x = .bl k ∧ Q k H'
theorem pt_cmpR {op : CmpOp} {r : R2} (ho : OpR X (compareOp op) r) (ha : PE X a ta) (hb : PE X b tb) (hm : behindInMarks op b = false) : PT X (.Compare a [op] [b] pos) (tTest (tOp r ta tb)) := by
  intro pins s σ H Q I h
  refine wpAny_isTrue_Compare1 (thn (ha pins s σ H _ I h) fun v s1 ⟨x, H1, I1, r1, q1⟩ => thn (hb pins s1 σ H1 _ I1 q1) fun u s2 ⟨y, H2, I2, r2, q2⟩ =>
    thn (ho pins s2 σ H2 x y v u _ I2 r1 r2 q2) fun c s3 ⟨z, H3, I3, r3, k, e, q3⟩ => ?_) hm
  subst e
  cases r3
  exact wpAny_truthy_bool ⟨H3, I3, q3⟩
/-- a op1 b op2 c -/
def tChain (r r' : R2) (ta tb tc : TE) : TE := fun σ H Q => ta σ H fun x H1 => tb σ H1 fun y H2 => r x y H2 fun z H3 => ∃ k, z = .bl k ∧
  (if k = true then tc σ H3 fun w' H4 => r' y w' H4 Q else Q (.bl false) H3)
theorem pe_chain {op op' : CmpOp} {r r' : R2} (ho : OpR X (compareOp op) r) (ho' : OpR X (compareOp op') r') (ha : PE X a ta) (hb : PE X b tb) (hc : PE X c tc)
    (hm : lastMarks [op, op'] [b, c] = false := by with_unfolding_all rfl) : PE X (.Compare a [op, op'] [b, c] pos) (tChain r r' ta tb tc) := by
  intro pins s σ H Q I h
  refine Compare_chain (thn (ha pins s σ H _ I h) fun v s1 ⟨x, H1, I1, r1, q1⟩ => chain_link (thn (hb pins s1 σ H1 _ I1 q1) fun u s2 ⟨y, H2, I2, r2, q2⟩ =>
    thn (ho pins s2 σ H2 x y v u _ I2 r1 r2 q2) fun d s3 ⟨z, H3, I3, r3, k, e, q3⟩ => ?_)) hm
  subst e
  cases r3
  refine wpAny_truthy_bool ?_
  cases k with
  | false => exact ite_ff ⟨.bl false, H3, I3, rfl, q3⟩
  | true => exact ite_tt (chain_last (thn (hc pins s3 σ H3 _ I3 q3) fun w' s4 ⟨z', H4, I4, r4, q4⟩ => ho' pins s4 σ H4 y z' u w' Q I4 r2 r4 q4))
theorem pt_chain {op op' : CmpOp} {r r' : R2} (ho : OpR X (compareOp op) r) (ho' : OpR X (compareOp op') r') (ha : PE X a ta) (hb : PE X b tb) (hc : PE X c tc)
    (hm : lastMarks [op, op'] [b, c] = false := by with_unfolding_all rfl) : PT X (.Compare a [op, op'] [b, c] pos) (tTest (tChain r r' ta tb tc)) := by
  intro pins s σ H Q I h
  refine isTrue_chain (thn (ha pins s σ H _ I h) fun v s1 ⟨x, H1, I1, r1, q1⟩ => test_link (thn (hb pins s1 σ H1 _ I1 q1) fun u s2 ⟨y, H2, I2, r2, q2⟩ =>
    thn (ho pins s2 σ H2 x y v u _ I2 r1 r2 q2) fun d s3 ⟨z, H3, I3, r3, k, e, q3⟩ => ?_)) hm
  subst e
  cases r3
  refine wpAny_truthy_bool ?_
  cases k with
  | false =>
    obtain ⟨k', e', q'⟩ := q3
    cases e'
    exact ite_ff ⟨H3, I3, q'⟩
  | true =>
    refine ite_tt (test_last (thn (hc pins s3 σ H3 _ I3 q3) fun w' s4 ⟨z', H4, I4, r4, q4⟩ => thn (ho' pins s4 σ H4 y z' u w' _ I4 r2 r4 q4) fun d' s5 ⟨z2, H5, I5, r5, k2, e2, q5⟩ => ?_))
    subst e2
    cases r5
    exact wpAny_truthy_bool ⟨H5, I5, q5⟩

/-! ### truth -/
/-- a value's truth by the abstract heap -/
def TruV (K : PySem.W.Frag) (x : V) (H : Hp) (k : Bool) : Prop :=
  match x with
  | .non => k = false
  | .bl b => k = b
  | .int i => k = (i != 0)
  | .str y => y.length ≤ sizeLine ∧ k = ((y.length : Int) != 0)
  | .byt y => y.size ≤ sizeLine ∧ k = ((y.size : Int) != 0)
  | .ref p => (∃ xs, SqL K H p xs ∧ k = !xs.isEmpty) ∨ (∃ xs, SqT K H p xs ∧ k = !xs.isEmpty) ∨ ∃ kvs, H p = some (.dK kvs) ∧ k = !kvs.isEmpty
  | _ => False
theorem isEmpty_kv {κ : Type} {kvs : List (κ × V)} {vs : List (κ × Value)} (r : KV kvs vs) : (!vs.isEmpty) = !kvs.isEmpty := by
  cases r <;> rfl
theorem isEmpty_of {xs : List V} {its : List Value} (r : Vals xs its) : (!its.toArray.isEmpty) = !xs.isEmpty := by
  cases r <;> simp
theorem line63 : (sizeLine : Nat) < 2 ^ 63 := by rw [sizeLine_eq]; decide
theorem tru_ok : TruR X (fun x H Q => ∃ k, TruV X.K x H k ∧ Q k H) := by
  intro pins s σ H x v Q I rx h
  obtain ⟨k, e, q⟩ := h
  have hl := line63
  have hs : sizeLine = 16777216 := sizeLine_eq
  cases x with
  | non =>
    cases rx
    have e' : k = false := e
    subst e'
    exact truthy_none ⟨H, I, q⟩
  | bl b =>
    cases rx
    have e' : k = b := e
    subst e'
    exact wpAny_truthy_bool ⟨H, I, q⟩
  | int i =>
    obtain ⟨t, rfl⟩ := rx
    have e' : k = (i != 0) := e
    subst e'
    exact PySem.P.truthy_int ⟨H, I, q⟩
  | str y =>
    obtain ⟨t, rfl⟩ := rx
    obtain ⟨hy, e'⟩ : y.length ≤ sizeLine ∧ k = ((y.length : Int) != 0) := e
    subst e'
    exact PySem.P.truthy_str (by omega) ⟨H, I.tok _, q⟩
  | byt y =>
    obtain ⟨t, rfl⟩ := rx
    obtain ⟨hy, e'⟩ : y.size ≤ sizeLine ∧ k = ((y.size : Int) != 0) := e
    subst e'
    exact PySem.W.truthy_bytes (by omega) ⟨H, I.tok _, q⟩
  | ref p =>
    cases rx
    have e' : (∃ xs, SqL X.K H p xs ∧ k = !xs.isEmpty) ∨ (∃ xs, SqT X.K H p xs ∧ k = !xs.isEmpty) ∨ ∃ kvs, H p = some (.dK kvs) ∧ k = !kvs.isEmpty := e
    rcases e' with ⟨xs, hx, e'⟩ | ⟨xs, hx, e'⟩ | ⟨kvs, hx, e'⟩
    · subst e'
      obtain ⟨its, r, pl, hz⟩ := I.list hx
      have hlen := r.length
      exact wpAny_truthy_list pl.isList (by simp only [List.size_toArray]; omega) ⟨H, I.tok _, by rw [isEmpty_of r]; exact q⟩
    · subst e'
      obtain ⟨its, r, pl, hz⟩ := I.tuple hx
      have hlen := r.length
      exact truthy_tuple pl (by simp only [List.size_toArray]; omega) ⟨H, I.tok _, by rw [isEmpty_of r]; exact q⟩
    · subst e'
      obtain ⟨hz, hS, vs, r, m⟩ : kvs.length ≤ sizeLine ∧ (p == sysModules) = false ∧ ∃ vs, KV kvs vs ∧ s.heap.DictOf (mixKind X.prog X.w) p vs := I.hok p _ hx
      have hlen : kvs.length = vs.length := Paired.length r
      exact wpAny_truthy_dict hS m (by omega) ⟨H, I.tok _, by rw [isEmpty_kv r]; exact q⟩
  | _ => exact (show False from e).elim
/-- any expression whose test is its value's truth (a name, a call, a subscript, a field ..: he by fun _ => rfl) -/
theorem pt_truth (ha : PE X a ta) (he : ∀ whole, isTrue a X.env whole = (do let v ← whole; standAt a.pos; holding [v] (truthy v))) :
    PT X a (fun σ H Q => ta σ H fun x H' => ∃ k, TruV X.K x H' k ∧ Q k H') := by
  intro pins s σ H Q I h
  exact isTrue_plain (thn (ha pins s σ H _ I h) fun v s1 ⟨x, H1, I1, r1, q1⟩ => tru_ok pins s1 σ H1 x v Q I1 r1 q1) (he _)

/-! ### strs and bytes -/
theorem pe_byt {x : List UInt8} {k : Nat} : PE X (.Constant (.bytes x) k pos) (fun _ H Q => Q (.byt x.toArray) H) := fun _ _ _ H _ I h => PySem.W.Constant_bytes ⟨.byt x.toArray, H, I.tok _, ⟨_, rfl⟩, h⟩
theorem op_add_str : OpR X (binaryOp .Add) (fun x y H Q => ∃ i j, x = .str i ∧ y = .str j ∧ i.length + j.length ≤ sizeLine ∧ Q (.str (i ++ j)) H) := by
  intro pins s σ H x y v u Q I rx ry h
  obtain ⟨i, j, rfl, rfl, hz, q⟩ := h
  obtain ⟨t, rfl⟩ := rx
  obtain ⟨t', rfl⟩ := ry
  exact add_str (fun t' tk => ⟨.str (i ++ j), H, I.tok _, ⟨_, rfl⟩, q⟩) hz
theorem iop_add_str : OpR X (inplaceOp .Add) (fun x y H Q => ∃ i j, x = .str i ∧ y = .str j ∧ i.length + j.length ≤ sizeLine ∧ Q (.str (i ++ j)) H) := by
  intro pins s σ H x y v u Q I rx ry h
  obtain ⟨i, j, rfl, rfl, hz, q⟩ := h
  obtain ⟨t, rfl⟩ := rx
  obtain ⟨t', rfl⟩ := ry
  exact iadd_str (fun t' tk => ⟨.str (i ++ j), H, I.tok _, ⟨_, rfl⟩, q⟩) hz
theorem op_add_byt : OpR X (binaryOp .Add) (fun x y H Q => ∃ i j, x = .byt i ∧ y = .byt j ∧ i.size + j.size ≤ 16777216 ∧ Q (.byt (i ++ j)) H) := by
  intro pins s σ H x y v u Q I rx ry h
  obtain ⟨i, j, rfl, rfl, hz, q⟩ := h
  obtain ⟨t, rfl⟩ := rx
  obtain ⟨t', rfl⟩ := ry
  exact PySem.W.KBy.add_bytes hz (fun t' tk => ⟨.byt (i ++ j), H, I.tok _, ⟨_, rfl⟩, q⟩)

def PlainIxT (b : Expr) : Prop := ∀ o i, subscripted b false o i = operate [o, i] (getItem o i)
/-- s[i], 0 ≤ i < len -/
theorem pe_item_str (ha : PE X a ta) (hb : PE X b tb) (hs : PlainIxT b) :
    PE X (.Subscript a b pos) (tOp (fun x y H Q => ∃ z i c, x = .str z ∧ y = .int i ∧ 0 ≤ i ∧ i < 2 ^ 63 ∧ i < z.length ∧ z.cps[i.toNat]? = some c ∧ Q (.str ⟨#[c]⟩) H) ta tb) := by
  intro pins s σ H Q I h
  refine Subscript_ (binT ha hb I h fun v u s2 x y H2 I2 rx ry q => ?_)
  obtain ⟨z, i, c, rfl, rfl, h0, h63, h1, hc, q⟩ := q
  obtain ⟨t, rfl⟩ := rx
  obtain ⟨t', rfl⟩ := ry
  have e : seqIndex? i z.length = some i.toNat := PySem.StrLaws.seqIndex_nonneg h0 h1
  exact tail_any (typeIs_str s2 z t) slot_str_getitem.lookup (getItem_str (c := c) (by
    have e1 : decide (i < -(2 ^ 63 : Int)) = false := decide_eq_false (by omega)
    have e2 : decide (i ≥ 2 ^ 63) = false := decide_eq_false (by omega)
    rw [e1, e2] <;> rfl) (by rw [e]; exact hc) ⟨.str ⟨#[c]⟩, H2, I2.tok _, ⟨_, rfl⟩, q⟩) (hs _ _)
/-- b[i], 0 ≤ i < len -/
theorem pe_item_byt (ha : PE X a ta) (hb : PE X b tb) (hs : PlainIxT b) :
    PE X (.Subscript a b pos) (tOp (fun x y H Q => ∃ (z : List UInt8) (i : Int), x = .byt z.toArray ∧ y = .int i ∧ z.length ≤ sizeLine ∧ 0 ≤ i ∧ i < z.length ∧ Q (.int ((z.getD i.toNat 0).toNat : Nat)) H) ta tb) := by
  intro pins s σ H Q I h
  refine Subscript_ (binT ha hb I h fun v u s2 x y H2 I2 rx ry q => ?_)
  obtain ⟨z, i, rfl, rfl, hz, h0, h1, q⟩ := q
  obtain ⟨t, rfl⟩ := rx
  obtain ⟨t', rfl⟩ := ry
  have hl : sizeLine = 16777216 := sizeLine_eq
  exact tail_any (PySem.W.typeIs_bytes s2 z.toArray t) PySem.W.FB.slot_bytes_getitem.lookup (PySem.W.getItem_bytes (by omega) h0 h1 ⟨.int ((z.getD i.toNat 0).toNat : Nat), H2, I2.tok _, ⟨_, rfl⟩, q⟩) (hs _ _)

/-! ### scalar builtins, by CallR -/
theorem vals1 {x : V} {us : List Value} (r : Vals [x] us) : ∃ u, us = [u] ∧ RelV x u := by
  cases r with
  | cons r1 r2 => cases r2; exact ⟨_, rfl, r1⟩
theorem vals2 {x y : V} {us : List Value} (r : Vals [x, y] us) : ∃ u w', us = [u, w'] ∧ RelV x u ∧ RelV y w' := by
  cases r with
  | cons r1 r2 =>
    cases r2 with
    | cons r3 r4 => cases r4; exact ⟨_, _, rfl, r1, r3⟩
theorem call_abs : CallR X (.builtin "abs") (fun xs H Q => ∃ i, xs = [.int i] ∧ Q (.int (if i < 0 then -i else i)) H) := by
  intro pins s σ H xs us Q I r h
  obtain ⟨i, rfl, q⟩ := h
  obtain ⟨u, rfl, t, rfl⟩ := vals1 r
  exact call_abs_int fun u tk => ⟨.int (if i < 0 then -i else i), H, I.tok _, ⟨_, rfl⟩, q⟩
theorem call_max2 (hc : X.calm = true) : CallR X (.builtin "max") (fun xs H Q => ∃ i j, xs = [.int i, .int j] ∧ Q (.int (if j > i then j else i)) H) := by
  intro pins s σ H xs us Q I r h
  obtain ⟨i, j, rfl, q⟩ := h
  obtain ⟨u, w', rfl, ⟨t, rfl⟩, ⟨t', rfl⟩⟩ := vals2 r
  refine max_two_ints (I.ok.hd hc) fun h' tk k => ⟨_, H, I.kept k, ?_, q⟩
  by_cases hj : j > i
  · rw [if_pos hj, if_pos hj]; exact ⟨_, rfl⟩
  · rw [if_neg hj, if_neg hj]; exact ⟨_, rfl⟩
theorem call_min2 (hc : X.calm = true) : CallR X (.builtin "min") (fun xs H Q => ∃ i j, xs = [.int i, .int j] ∧ Q (.int (if j < i then j else i)) H) := by
  intro pins s σ H xs us Q I r h
  obtain ⟨i, j, rfl, q⟩ := h
  obtain ⟨u, w', rfl, ⟨t, rfl⟩, ⟨t', rfl⟩⟩ := vals2 r
  refine min_two_ints (I.ok.hd hc) fun h' tk k => ⟨_, H, I.kept k, ?_, q⟩
  by_cases hj : j < i
  · rw [if_pos hj, if_pos hj]; exact ⟨_, rfl⟩
  · rw [if_neg hj, if_neg hj]; exact ⟨_, rfl⟩
theorem call_int1 : CallR X (.type "int") (fun xs H Q => (∃ i, xs = [.int i] ∧ Q (.int i) H) ∨ ∃ k, xs = [.bl k] ∧ Q (.int (if k then 1 else 0)) H) := by
  intro pins s σ H xs us Q I r h
  rcases h with ⟨i, rfl, q⟩ | ⟨k, rfl, q⟩
  · obtain ⟨u, rfl, t, rfl⟩ := vals1 r
    exact call_int_int ⟨.int i, H, I, ⟨_, rfl⟩, q⟩
  · obtain ⟨u, rfl, r1⟩ := vals1 r
    cases r1
    exact call_int_bool ⟨.int (if k then 1 else 0), H, I.tok _, ⟨_, rfl⟩, q⟩
theorem call_bool1 : CallR X (.type "bool") (fun xs H Q => (∃ i, xs = [.int i] ∧ Q (.bl (i != 0)) H) ∨ ∃ k, xs = [.bl k] ∧ Q (.bl k) H) := by
  intro pins s σ H xs us Q I r h
  rcases h with ⟨i, rfl, q⟩ | ⟨k, rfl, q⟩
  · obtain ⟨u, rfl, t, rfl⟩ := vals1 r
    exact call_bool_int ⟨.bl (i != 0), H, I, rfl, q⟩
  · obtain ⟨u, rfl, r1⟩ := vals1 r
    cases r1
    exact call_bool_bool ⟨.bl k, H, I, rfl, q⟩
theorem call_str_int : CallR X (.type "str") (fun xs H Q => ∃ i, xs = [.int i] ∧ i.natAbs.log2 < 1920 ∧ Q (.str (toString i)) H) := by
  intro pins s σ H xs us Q I r h
  obtain ⟨i, rfl, hz, q⟩ := h
  obtain ⟨u, rfl, t, rfl⟩ := vals1 r
  exact PySem.P.str_of_int hz ⟨.str _, H, I.tok _, ⟨_, rfl⟩, q⟩
theorem call_ord : CallR X (.builtin "ord") (fun xs H Q => ∃ x, xs = [.str x] ∧ x.length = 1 ∧ Q (.int (x.cps.getD 0 0 : Nat)) H) := by
  intro pins s σ H xs us Q I r h
  obtain ⟨x, rfl, hz, q⟩ := h
  obtain ⟨u, rfl, t, rfl⟩ := vals1 r
  exact ord_of_one hz ⟨.int _, H, I.tok _, ⟨_, rfl⟩, q⟩
theorem call_chr : CallR X (.builtin "chr") (fun xs H Q => ∃ i, xs = [.int i] ∧ 0 ≤ i ∧ i ≤ 1114111 ∧ Q (.str ⟨#[i.toNat]⟩) H) := by
  intro pins s σ H xs us Q I r h
  obtain ⟨i, rfl, h0, h1, q⟩ := h
  obtain ⟨u, rfl, t, rfl⟩ := vals1 r
  exact chr_of_range h0 h1 ⟨.str _, H, I.tok _, ⟨_, rfl⟩, q⟩
/-- len of a str, a bytes, a list, a tuple -/
def LenV (K : PySem.W.Frag) (x : V) (H : Hp) (n : Nat) : Prop :=
  match x with
  | .str y => y.length ≤ sizeLine ∧ n = y.length
  | .byt y => y.size ≤ sizeLine ∧ n = y.size
  | .ref p => (∃ xs, SqL K H p xs ∧ n = xs.length) ∨ ∃ xs, SqT K H p xs ∧ n = xs.length
  | _ => False
theorem call_len : CallR X (.builtin "len") (fun xs H Q => ∃ x n, xs = [x] ∧ LenV X.K x H n ∧ Q (.int n) H) := by
  intro pins s σ H xs us Q I r h
  obtain ⟨x, n, rfl, e, q⟩ := h
  obtain ⟨u, rfl, rx⟩ := vals1 r
  have hl := line63
  have hs : sizeLine = 16777216 := sizeLine_eq
  cases x with
  | str y =>
    obtain ⟨t, rfl⟩ := rx
    obtain ⟨hy, e'⟩ : y.length ≤ sizeLine ∧ n = y.length := e
    subst e'
    exact len_str (by omega) ⟨.int _, H, I.tok _, ⟨_, rfl⟩, q⟩
  | byt y =>
    obtain ⟨t, rfl⟩ := rx
    obtain ⟨hy, e'⟩ : y.size ≤ sizeLine ∧ n = y.size := e
    subst e'
    exact PySem.W.len_bytes (by omega) ⟨.int _, H, I.tok _, ⟨_, rfl⟩, q⟩
  | ref p =>
    cases rx
    have e' : (∃ xs, SqL X.K H p xs ∧ n = xs.length) ∨ ∃ xs, SqT X.K H p xs ∧ n = xs.length := e
    rcases e' with ⟨xs, hx, e'⟩ | ⟨xs, hx, e'⟩
    · subst e'
      obtain ⟨its, r', pl, hz⟩ := I.list hx
      have hlen := r'.length
      exact Calls.call_len_list pl.isList (by simp only [List.size_toArray]; omega) ⟨.int xs.length, H, I.tok _, ⟨_, by simp only [List.size_toArray]; rw [hlen]⟩, q⟩
    · subst e'
      obtain ⟨its, r', pl, hz⟩ := I.tuple hx
      have hlen := r'.length
      exact len_tuple pl (by simp only [List.size_toArray]; omega) ⟨.int xs.length, H, I.tok _, ⟨_, by simp only [List.size_toArray]; rw [hlen]⟩, q⟩
  | _ => exact (show False from e).elim
/-- divmod: a new tuple -/
theorem call_divmod : CallR X (.builtin "divmod") (fun xs H Q => ∃ i j, xs = [.int i, .int j] ∧ CDiv i j ∧ ∀ p, H p = none → Q (.ref p) (upd H p (.tup [.int (i / j), .int (i % j)]))) := by
  intro pins s σ H xs us Q I r h
  obtain ⟨i, j, rfl, ⟨h1, h2⟩, q⟩ := h
  obtain ⟨u, w', rfl, ⟨t, rfl⟩, ⟨t', rfl⟩⟩ := vals2 r
  refine divmod_int (by omega) ?_ (.inl (PyProof.noPylong_small (by omega)))
  rw [Int.fdiv_eq_ediv_of_nonneg i (by omega), Int.fmod_eq_emod_of_nonneg i (by omega)]
  have hn : H s.heap.objs.size = none := I.hok.fresh (Nat.le_refl _)
  refine ⟨.ref s.heap.objs.size, _, ?_, rfl, q _ hn⟩
  refine I.laid (fun b o e => Heap.get?_push_of_some _ e) (Nat.le_refl _) ⟨by simp only [List.length_cons, List.length_nil]; rw [sizeLine_eq]; decide, [.int (i / j) s.toks, .int (i % j) (s.toks + 1)], .cons ⟨_, rfl⟩ (.cons ⟨_, rfl⟩ .nil), ?_⟩
  exact ⟨_, Heap.get?_push_size s.heap rfl, rfl, 0, rfl⟩
end
end L2

namespace L2
open PySem PySem.Spec PyProof.Rows

/-! ### an instance, its attributes a map -/
structure ObjM (h : Heap) (x dx C : Addr) (mA : Str → Option Value) : Prop where
  obj : h.get? x = some (PySem.W.instObj C dx)
  ns : h.Ns1 dx mA
  ne : dx ≠ x

theorem lookIn_ns {h : Heap} {dx : Addr} {mA : Str → Option Value} (n : h.Ns1 dx mA) : ∃ od, h.get? dx = some od ∧ ∀ name, PySem.W.lookIn name od = some (mA name) := by
  obtain ⟨o, es, ep, ho, hd, hk, _, hm⟩ := n
  refine ⟨o, ho, fun name => ?_⟩
  have e := hm name
  unfold nsFind findBy at e
  rw [← Array.find?_toList] at e
  unfold PySem.W.lookIn
  rw [hd]
  dsimp only
  split
  · rename_i y q
    rw [q] at e
    exact congrArg some e
  · rename_i q
    rw [q] at e
    have a : es.toList.any (·.refKey) = false := by
      rw [List.any_eq_false]
      intro y hy
      obtain ⟨z, t, hkey⟩ := hk y (Array.mem_toList_iff.mp hy)
      simp [DictEntry.refKey, hkey]
    have a' : ¬ es.toList.any (·.refKey) = true := by rw [a]; exact Bool.false_ne_true
    rw [if_neg a']
    exact congrArg some e

theorem ObjM.look {h : Heap} {x dx C : Addr} {mA : Str → Option Value} (I : ObjM h x dx C mA) : ∃ od, PySem.W.InstAt h x (PySem.W.instObj C dx) C (some od) ∧ ∀ name, PySem.W.lookIn name od = some (mA name) :=
  let ⟨od, ho, hl⟩ := lookIn_ns I.ns
  ⟨od, ⟨I.obj, rfl, rfl, ho⟩, hl⟩

section
variable {prog : Program} {w : World} {A : Around} {E : Value → Shared → Prop} {s : Shared} {K : PySem.W.Frag} {x dx C f : Addr} {mA : Str → Option Value} {name : Str} {v : Value}

theorem get_map {expr : Bool} {Q : Value → Shared → Prop} (X : K.In s.heap) (I : ObjM s.heap x dx C mA) (hg : PySem.W.plainGet K C name = true) (hh : PySem.W.hasDictIn K C = true)
    (ha : PySem.W.findIn K (.ref C) name = some none) (hv : mA name = some v) (hv' : PySem.W.handedIn v = true) (h : Q v { s with toks := s.toks + 1 }) :
    wpAny (model prog w) A (getAttr (.ref x) name expr) Q E s := by
  obtain ⟨od, J, hl⟩ := I.look
  exact PySem.W.get_value X J (PySem.W.plainGet_of hg).1 (PySem.W.findObj_own hh ha rfl (by rw [hl, hv])) hv' h

theorem get_const {expr : Bool} {a : Value} {Q : Value → Shared → Prop} (X : K.In s.heap) (I : ObjM s.heap x dx C mA) (hg : PySem.W.plainGet K C name = true) (hh : PySem.W.hasDictIn K C = true)
    (ha : PySem.W.findIn K (.ref C) name = some (some a)) (hn : PySem.W.specialIn K a "__get__" = some none) (hc : PySem.W.copiedNames.contains name = false) (hv : mA name = none) (hv' : PySem.W.handedIn a = true)
    (h : Q a { s with toks := s.toks + 1 }) : wpAny (model prog w) A (getAttr (.ref x) name expr) Q E s := by
  obtain ⟨od, J, hl⟩ := I.look
  exact PySem.W.get_value X J (PySem.W.plainGet_of hg).1 (PySem.W.findObj_cls hh ha hn hv' hc (by rw [hl, hv])) hv' h

theorem get_meth {pl : Sem Bool} {Q : Value × List Value → Shared → Prop} (X : K.In s.heap) (I : ObjM s.heap x dx C mA) (hg : PySem.W.plainGet K C name = true)
    (hf : PySem.W.findIn K (.ref C) name = some (some (.ref f))) (ht : PySem.W.isFn K (.ref f) = true) (hv : mA name = none) (h : Q (.ref f, [.ref x]) s) :
    wpAny (model prog w) A (getMethod (.ref x) name pl) Q E s := by
  obtain ⟨od, J, hl⟩ := I.look
  exact PySem.W.method_fn X J (PySem.W.plainGet_of hg).1 (PySem.W.plainGet_of hg).2 hf (beq_iff_eq.mp ht) (by show (PySem.W.lookIn name od).map (·.isSome) = some false; rw [hl, hv]; rfl) h

theorem set_map {ns : List Str} {Q : Unit → Shared → Prop} (X : K.In s.heap) (I : ObjM s.heap x dx C mA)
    (hs : PySem.W.findIn K (.ref C) "__setattr__" = some (some (.builtin "object.__setattr__"))) (hp : PySem.W.plainOver K C = true) (ht : PySem.W.takerIn K C name = some none) (hh : PySem.W.hasDictIn K C = true)
    (hw : PySem.Within mA ns) (hsz : ns.length ≤ sizeLine)
    (h : ∀ h', ObjM h' x dx C (fun y => if y = name then some v else mA y) → Heap.SameBut dx s.heap h' → Q () { s with heap := h', toks := s.toks + 2 }) :
    wpAny (model prog w) A (setAttr (.ref x) name v) Q E s := by
  obtain ⟨od, J, hl⟩ := I.look
  refine PySem.W.set_plain X J hs (PySem.W.osa_open (s := { s with toks := s.toks + 1 }) (r := none) X J hp ht fun b => ?_)
  obtain ⟨cd, hc, hd'⟩ := PySem.W.any_some hh
  have hx : s.heap.get? x = some ⟨.ref C, some dx, .plain, #[]⟩ := I.obj
  refine wpAny_bind (wpAny_pure (wpAny_bind (wpAny_bind (wpAny_loadPart hx (wpAny_bind (PySem.W.Looks.here (s := { s with toks := s.toks + 1 }) (PySem.W.looks_clsIn X hc) ?_))))))
  rw [hd']
  refine wpAny_pure (a := some dx) (wpAny_bind (wpAny_pure (wpAny_bind ?_)))
  refine wpAny_nsSet1 (s := { s with toks := s.toks + 1 }) I.ns fun h' hn2 hs2 => ?_
  obtain ⟨oD, esD, epD, hoD, hdD, hcD⟩ := hn2.count (PySem.Within.cons name v hw)
  refine wpAny_bind (wpAny_lookBehind hoD (by rw [hdD]; exact pastItsLine_dict (Nat.le_trans hcD (by rw [List.length_cons]; omega))) ?_)
  exact wpAny_pure (h _ ⟨(hs2.2 _ (Ne.symm I.ne)).trans I.obj, hn2, I.ne⟩ hs2)

/-- C(..): the dict at the heap's end, the instance behind it; then its __init__ -/
theorem make_map {R : Result → Shared → Prop} {vs : List Value} {kw : List (Str × Value)} (X : K.In s.heap) (hm : PySem.W.makesIn K C = true)
    (hi : PySem.W.findIn K (.ref C) "__init__" = some (some (.ref f))) (hf : PySem.W.typeIn K (.ref f) = some (.type "function"))
    (h : codeAny (model prog w) (A.under (.builtin "type.__call__" ⟨.ref C :: vs, kw⟩)) (.call (.ref f) ⟨.ref (s.heap.objs.size + 1) :: vs, kw⟩) (PySem.W.InitBack (s.heap.objs.size + 1) R)
      { s with heap := (s.heap.push PySem.W.emptyDict).push (PySem.W.instObj C s.heap.objs.size) }) :
    codeAny (model prog w) A (.call (.ref C) ⟨vs, kw⟩) R s := by
  obtain ⟨hh, g, d, t, os⟩ := s
  exact PySem.W.make_core (PySem.W.makes_of X hm) (PySem.W.looks_findIn X hi) (fun self => PySem.W.bind_fn X self hf) (.inl rfl) h
/-- C() where there is no __init__ but object's -/
theorem make_map0 {R : Result → Shared → Prop} (X : K.In s.heap) (hm : PySem.W.makesIn K C = true)
    (hi : PySem.W.findIn K (.ref C) "__init__" = some (some (.builtin "object.__init__")))
    (hb : ∀ self, PySem.W.Looks (model prog w) s.heap (bindSpecial (.builtin "object.__init__") self) (.builtin "object.__init__", [self]))
    (h : codeAny (model prog w) (A.under (.builtin "type.__call__" ⟨[.ref C], []⟩)) (.call (.builtin "object.__init__") ⟨[.ref (s.heap.objs.size + 1)], []⟩) (PySem.W.InitBack (s.heap.objs.size + 1) R)
      { s with heap := (s.heap.push PySem.W.emptyDict).push (PySem.W.instObj C s.heap.objs.size) }) :
    codeAny (model prog w) A (.call (.ref C) ⟨[], []⟩) R s := by
  obtain ⟨hh, g, d, t, os⟩ := s
  exact PySem.W.make_core (PySem.W.makes_of X hm) (PySem.W.looks_findIn X hi) hb (.inr ⟨rfl, rfl⟩) h
end

/-! ### the attributes as a list of pairs -/
def putF (f : Str) (v : V) : List (Str × V) → List (Str × V)
  | [] => [(f, v)]
  | (g, x) :: r => if g = f then (g, v) :: r else (g, x) :: putF f v r
theorem lookup_putF (f g : Str) (v : V) : ∀ fs : List (Str × V), (putF f v fs).lookup g = if g = f then some v else fs.lookup g
  | [] => by
    show List.lookup g [(f, v)] = _
    by_cases h : g = f
    · have hb : (g == f) = true := beq_iff_eq.mpr h
      simp only [List.lookup, hb, if_pos h]
    · have hb : (g == f) = false := beq_eq_false_iff_ne.mpr h
      simp only [List.lookup, hb, if_neg h]
  | (k, x) :: r => by
    have ih := lookup_putF f g v r
    rw [show putF f v ((k, x) :: r) = (if k = f then (k, v) :: r else (k, x) :: putF f v r) from rfl]
    by_cases hk : k = f
    · rw [if_pos hk]
      by_cases h : g = k
      · have hb : (g == k) = true := beq_iff_eq.mpr h
        simp only [List.lookup, hb, if_pos (h.trans hk)]
      · have hb : (g == k) = false := beq_eq_false_iff_ne.mpr h
        simp only [List.lookup, hb, if_neg (fun e : g = f => h (e.trans hk.symm))]
    · rw [if_neg hk]
      by_cases h : g = k
      · have hb : (g == k) = true := beq_iff_eq.mpr h
        simp only [List.lookup, hb, if_neg (fun e : g = f => hk (h.symm.trans e))]
      · have hb : (g == k) = false := beq_eq_false_iff_ne.mpr h
        simp only [List.lookup, hb]
        exact ih
theorem keys_putF (f : Str) (v : V) : ∀ fs : List (Str × V), f ∈ (putF f v fs).map (·.1) ∧ ∀ g, g ∈ fs.map (·.1) → g ∈ (putF f v fs).map (·.1)
  | [] => ⟨by simp [putF], fun g h => by simp at h⟩
  | (k, x) :: r => by
    obtain ⟨i1, i2⟩ := keys_putF f v r
    rw [show putF f v ((k, x) :: r) = (if k = f then (k, v) :: r else (k, x) :: putF f v r) from rfl]
    by_cases hk : k = f
    · rw [if_pos hk]
      subst hk
      exact ⟨by simp, fun g h => by simpa using h⟩
    · rw [if_neg hk]
      refine ⟨?_, fun g h => ?_⟩
      · rw [List.map_cons]
        exact List.mem_cons_of_mem _ i1
      · rw [List.map_cons] at h ⊢
        rcases List.mem_cons.mp h with e | e
        · exact List.mem_cons.mpr (.inl e)
        · exact List.mem_cons_of_mem _ (i2 g e)
theorem length_putF (f : Str) (v : V) : ∀ fs : List (Str × V), (putF f v fs).length ≤ fs.length + 1
  | [] => by simp [putF]
  | (k, x) :: r => by
    have ih := length_putF f v r
    rw [show putF f v ((k, x) :: r) = (if k = f then (k, v) :: r else (k, x) :: putF f v r) from rfl]
    by_cases hk : k = f
    · rw [if_pos hk, List.length_cons, List.length_cons]; omega
    · rw [if_neg hk, List.length_cons, List.length_cons]; omega

theorem RelO.some_of {v : V} {o : Option Value} (r : RelO (some v) o) : ∃ u, o = some u ∧ RelV v u := by
  cases o with
  | none => exact (show False from r).elim
  | some u => exact ⟨u, rfl, r⟩
theorem RelO.none_of {o : Option Value} (r : RelO none o) : o = none := by
  cases o with
  | none => rfl
  | some u => exact (show False from r).elim
theorem handed_of {v : V} {u : Value} (r : RelV v u) : PySem.W.handedIn u = true := by
  cases v with
  | non => cases (show u = Value.none from r); rfl
  | bl b => cases (show u = Value.bool b from r); rfl
  | int i => obtain ⟨t, e⟩ := (show ∃ t, u = Value.int i t from r); cases e; rfl
  | str x => obtain ⟨t, e⟩ := (show ∃ t, u = Value.str x t from r); cases e; rfl
  | byt b => obtain ⟨t, e⟩ := (show ∃ t, u = Value.bytes b t from r); cases e; rfl
  | flt b => obtain ⟨t, e⟩ := (show ∃ t, u = Value.float b t from r); cases e; rfl
  | ref a => cases (show u = Value.ref a from r); rfl
  | ty n => cases (show u = Value.type n from r); rfl

section
variable {P : Program} {w : World} {H H' : Hp} {h h' : Heap} {a C dx : Addr} {fs fs' : List (Str × V)}
theorem ins_get (hok : HOk P w H h) (e : H a = some (.ins C dx fs)) : ∃ mA, ObjM h a dx C mA ∧ (∀ f, RelO (fs.lookup f) (mA f)) ∧ PySem.Within mA (fs.map (·.1)) ∧ fs.length ≤ 1000 ∧ H dx = some (.own a) := by
  obtain ⟨d, z, ne, ob, mA, n, r, q⟩ := (show ObjOk P w H h a (.ins C dx fs) from hok a _ e)
  exact ⟨mA, ⟨ob, n, ne⟩, r, q, z, d⟩
end

/-! ### what of the text a class must have -/
structure Cls (K : PySem.W.Frag) (C : Addr) : Prop where
  pg : PySem.W.plainGet K C Str.empty = true
  hd : PySem.W.hasDictIn K C = true
  po : PySem.W.plainOver K C = true
  sa : PySem.W.findIn K (.ref C) "__setattr__" = some (some (.builtin "object.__setattr__"))
theorem Cls.get {K : PySem.W.Frag} {C : Addr} (c : Cls K C) (f : Str) : PySem.W.plainGet K C f = true := c.pg
/-- no class of it has the name -/
def NoAttr (K : PySem.W.Frag) (C : Addr) (f : Str) : Prop := PySem.W.findIn K (.ref C) f = some none
theorem NoAttr.taker {K : PySem.W.Frag} {C : Addr} {f : Str} (n : NoAttr K C f) : PySem.W.takerIn K C f = some none := by
  unfold PySem.W.takerIn
  rw [show PySem.W.findIn K (.ref C) f = some none from n]
  rfl
/-- a constant of the class -/
structure Con (K : PySem.W.Frag) (C : Addr) (f : Str) (v : V) (u : Value) : Prop where
  at_ : PySem.W.findIn K (.ref C) f = some (some u)
  rel : RelV v u
  get : PySem.W.specialIn K u "__get__" = some none
  cp : PySem.W.copiedNames.contains f = false
/-- a method: a plain def of the class or of one above it -/
structure Meth (K : PySem.W.Frag) (C : Addr) (m : Str) (f : Addr) : Prop where
  at_ : PySem.W.findIn K (.ref C) m = some (some (.ref f))
  fn : PySem.W.isFn K (.ref f) = true
  kp : PySem.W.keepIn K (.ref f) = true

section
variable {X : Cx} {pins : List (Addr × Obj)} {σ : St} {H : Hp} {s : Shared} {a C dx : Addr} {fs : List (Str × V)} {f : Str} {v : V} {A : Around} {E : Value → Shared → Prop}

theorem getattr_ok {b : Bool} {Q : Value → Shared → Prop} (I : Inv X pins σ H s) (e : H a = some (.ins C dx fs)) (c : Cls X.K C) (n : NoAttr X.K C f) (l : fs.lookup f = some v)
    (h : ∀ u s', Inv X pins σ H s' → RelV v u → Q u s') : wpAny (model X.prog X.w) A (getAttr (.ref a) f b) Q E s := by
  obtain ⟨mA, O, r, _, _, _⟩ := ins_get I.hok e
  obtain ⟨u, hu, ru⟩ := RelO.some_of (v := v) (o := mA f) (by rw [← l]; exact r f)
  exact get_map I.kIn O (c.get f) c.hd n hu (handed_of ru) (h u _ (I.tok _) ru)

theorem getcon_ok {b : Bool} {u : Value} {Q : Value → Shared → Prop} (I : Inv X pins σ H s) (e : H a = some (.ins C dx fs)) (c : Cls X.K C) (k : Con X.K C f v u) (l : fs.lookup f = none)
    (h : ∀ s', Inv X pins σ H s' → Q u s') : wpAny (model X.prog X.w) A (getAttr (.ref a) f b) Q E s := by
  obtain ⟨mA, O, r, _, _, _⟩ := ins_get I.hok e
  have hn : mA f = none := RelO.none_of (by rw [← l]; exact r f)
  exact get_const I.kIn O (c.get f) c.hd k.at_ k.get k.cp hn (handed_of k.rel) (h _ (I.tok _))

theorem getmeth_ok {m : Str} {g : Addr} {pl : Sem Bool} {Q : Value × List Value → Shared → Prop} (I : Inv X pins σ H s) (e : H a = some (.ins C dx fs)) (c : Cls X.K C) (k : Meth X.K C m g) (l : fs.lookup m = none)
    (h : Q (.ref g, [.ref a]) s) : wpAny (model X.prog X.w) A (getMethod (.ref a) m pl) Q E s := by
  obtain ⟨mA, O, r, _, _, _⟩ := ins_get I.hok e
  have hn : mA m = none := RelO.none_of (by rw [← l]; exact r m)
  exact get_meth I.kIn O (c.get m) k.at_ k.fn hn h

theorem setattr_ok {y : V} {u : Value} {Q : Unit → Shared → Prop} (I : Inv X pins σ H s) (e : H a = some (.ins C dx fs)) (c : Cls X.K C) (n : NoAttr X.K C f) (hl : fs.length < 1000) (ry : RelV y u)
    (h : ∀ s', Inv X pins σ (upd H a (.ins C dx (putF f y fs))) s' → Q () s') : wpAny (model X.prog X.w) A (setAttr (.ref a) f u) Q E s := by
  obtain ⟨mA, O, r, wi, _, ho⟩ := ins_get I.hok e
  have hz : (fs.map (·.1)).length ≤ sizeLine := by rw [List.length_map, sizeLine_eq]; omega
  refine set_map I.kIn O c.sa c.po n.taker c.hd wi hz fun h' O' sb => h _ ?_
  have hd : ∃ o, h'.get? dx = some o := let ⟨o, _, _, e', _⟩ := O'.ns; ⟨o, e'⟩
  refine I.write (x := a) (e := dx) (by rw [e]; exact True.intro) (.inr ho) (fun b q hb z => (sb.2 b hb).trans z) hd ?_
  refine ⟨by rw [upd_ne O.ne]; exact ho, ?_, O.ne, O'.obj, _, O'.ns, fun g => ?_, fun g hg => ?_⟩
  · have := length_putF f y fs; omega
  · show RelO ((putF f y fs).lookup g) (if g = f then some u else mA g)
    rw [lookup_putF]
    by_cases q : g = f
    · rw [if_pos q, if_pos q]; exact ry
    · rw [if_neg q, if_neg q]; exact r g
  · by_cases q : g = f
    · rw [q]; exact (keys_putF f y fs).1
    · refine (keys_putF f y fs).2 g (wi g fun z => hg ?_)
      show (if g = f then some u else mA g) = none
      rw [if_neg q]; exact z

/-- a new instance, tracked, without attributes -/
theorem Inv.made (I : Inv X pins σ H s) : Inv X pins σ (upd (upd H s.heap.objs.size (.own (s.heap.objs.size + 1))) (s.heap.objs.size + 1) (.ins C s.heap.objs.size []))
    { s with heap := (s.heap.push PySem.W.emptyDict).push (PySem.W.instObj C s.heap.objs.size) } := by
  have e1 : (s.heap.push PySem.W.emptyDict).get? s.heap.objs.size = some PySem.W.emptyDict := Heap.get?_push_size s.heap rfl
  have e2 : ((s.heap.push PySem.W.emptyDict).push (PySem.W.instObj C s.heap.objs.size)).get? (s.heap.objs.size + 1) = some (PySem.W.instObj C s.heap.objs.size) := by
    have := Heap.get?_push_size (s.heap.push PySem.W.emptyDict) (o := PySem.W.instObj C s.heap.objs.size) rfl
    rwa [Heap.size_push] at this
  have e3 : (s.heap.push PySem.W.emptyDict).Ns s.heap.objs.size (fun _ => none) := ⟨PySem.W.emptyDict, #[], _, e1, rfl, (fun e he => absurd he (by simp)), fun _ => rfl⟩
  have I1 := I.laid (a := s.heap.objs.size) (o := .own (s.heap.objs.size + 1)) (h' := s.heap.push PySem.W.emptyDict) (t' := s.toks) (fun b u q => Heap.get?_push_of_some _ q) (Nat.le_refl _) ⟨_, e1⟩
  refine I1.laid (a := s.heap.objs.size + 1) (o := .ins C s.heap.objs.size []) (t' := s.toks) (fun b u q => Heap.get?_push_of_some _ q) (Nat.le_of_eq (Heap.size_push _ _)) ?_
  have ne : s.heap.objs.size ≠ s.heap.objs.size + 1 := Nat.ne_of_lt (Nat.lt_succ_self _)
  refine ⟨by rw [upd_ne ne, upd_same], Nat.zero_le _, ne, e2, fun _ => none, (Heap.Ns1.of_empty e3).at fun o q => Heap.get?_push_of_some _ q, fun _ => True.intro, fun y hy => absurd rfl hy⟩

/-- e.f where nothing but the object is asked: through attributeBase (super) and the last hold -/
theorem attr_of {prog : Program} {w : World} {env : Env} {e : Expr} {f : Str} {pos : Pos} {s : Shared} {Q : Value → Shared → Prop} (hb : attributeBase e f env (eval e env) = eval e env)
    (h : wpAny (model prog w) A (eval e env) (fun o s₁ => wpAny (model prog w) A (getAttr o f true) Q E s₁) E s) : wpAny (model prog w) A (eval (.Attribute e f pos) env) Q E s :=
  Attribute_any_ h (by rw [arm_eval_Attribute, hb])
end

/-! ### readings and rules -/
/-- e.f, an attribute of the instance -/
def tFld (K : PySem.W.Frag) (ta : TE) (f : Str) : TE := fun σ H Q => ta σ H fun x H1 => ∃ a C dx fs v, x = .ref a ∧ H1 a = some (.ins C dx fs) ∧ Cls K C ∧ NoAttr K C f ∧ fs.lookup f = some v ∧ Q v H1
/-- e.f, a constant of the class -/
def tCon (K : PySem.W.Frag) (ta : TE) (f : Str) : TE := fun σ H Q => ta σ H fun x H1 => ∃ a C dx fs v u, x = .ref a ∧ H1 a = some (.ins C dx fs) ∧ Cls K C ∧ Con K C f v u ∧ fs.lookup f = none ∧ Q v H1
/-- e.f = value -/
def sFld (K : PySem.W.Frag) (ta tv : TE) (f : Str) : TS := fun D σ H => tv σ H fun y H1 => ta σ H1 fun x H2 => ∃ a C dx fs, x = .ref a ∧ H2 a = some (.ins C dx fs) ∧ Cls K C ∧ NoAttr K C f ∧ fs.length < 1000 ∧
  D.nx σ (upd H2 a (.ins C dx (putF f y fs)))
/-- an augmented operator on two values -/
def InOp (X : Cx) (op : Operator) (rd : V → V → Hp → VK → Prop) : Prop :=
  ∀ (pins : List (Addr × Obj)) (s : Shared) (σ : St) (H : Hp) (x y : V) (u v : Value) (Q : VK), Inv X pins σ H s → RelV x u → RelV y v → rd x y H Q → wpAny (model X.prog X.w) X.A (inplaceOp op u v) (EP X pins σ Q) X.xe s
/-- e.f op= value -/
def sFldAug (K : PySem.W.Frag) (ta tv : TE) (rd : V → V → Hp → VK → Prop) (f : Str) : TS := fun D σ H => ta σ H fun x H1 => ∃ a C dx fs v, x = .ref a ∧ H1 a = some (.ins C dx fs) ∧ Cls K C ∧ NoAttr K C f ∧ fs.lookup f = some v ∧
  tv σ H1 fun y H2 => rd v y H2 fun z H3 => ∃ dx' fs', H3 a = some (.ins C dx' fs') ∧ fs'.length < 1000 ∧ D.nx σ (upd H3 a (.ins C dx' (putF f z fs')))

section
variable {X : Cx} {o e value : Expr} {f : Str} {pos pos' tpos : Pos} {ta tv : TE}
theorem pe_fld (he : PE X e ta) (hb : attributeBase e f X.env (eval e X.env) = eval e X.env) : PE X (.Attribute e f pos) (tFld X.K ta f) := by
  intro pins s σ H Q I h
  refine attr_of hb (thn (he pins s σ H _ I h) fun u s1 ⟨x, H1, I1, rx, a, C, dx, fs, v, ex, ea, c, n, l, q⟩ => ?_)
  subst ex
  obtain rfl : u = Value.ref a := rx
  exact getattr_ok I1 ea c n l fun u' s2 I2 ru => ⟨v, H1, I2, ru, q⟩
theorem pe_con (he : PE X e ta) (hb : attributeBase e f X.env (eval e X.env) = eval e X.env) : PE X (.Attribute e f pos) (tCon X.K ta f) := by
  intro pins s σ H Q I h
  refine attr_of hb (thn (he pins s σ H _ I h) fun u s1 ⟨x, H1, I1, rx, a, C, dx, fs, v, u0, ex, ea, c, k, l, q⟩ => ?_)
  subst ex
  obtain rfl : u = Value.ref a := rx
  exact getcon_ok I1 ea c k l fun s2 I2 => ⟨v, H1, I2, k.rel, q⟩
theorem ps_fld (ha : PE X o ta) (hv : PE X value tv) (hs : swapsWith value (some (.Attribute o f pos')) pos.line X.env = pure false) : PS X (.Assign [.Attribute o f pos'] value pos) (sFld X.K ta tv f) := by
  intro pins s σ H D I h
  refine plainObj_wpAny_Assign_Attribute (thn (hv pins s σ H _ I h) fun u s1 ⟨y, H1, I1, ry, q⟩ => thn (ha pins s1 σ H1 _ I1 q) fun ov s2 ⟨x, H2, I2, rx, a, C, dx, fs, ex, ea, c, n, l, q2⟩ => ?_) hs
  subst ex
  obtain rfl : ov = Value.ref a := rx
  exact setattr_ok I2 ea c n l ry fun s3 I3 => ⟨σ, _, I3, q2⟩
theorem ps_fldaug {op : Operator} {rd : V → V → Hp → VK → Prop} (ha : PE X o ta) (hv : PE X value tv) (hop : InOp X op rd) : PS X (.AugAssign (.Attribute o f tpos) op value pos) (sFldAug X.K ta tv rd f) := by
  intro pins s σ H D I h
  refine wpAny_AugAssign_AttributeAny (thn (ha pins s σ H _ I h) fun ov s1 ⟨x, H1, I1, rx, a, C, dx, fs, v, ex, ea, c, n, l, q⟩ => ?_)
  subst ex
  obtain rfl : ov = Value.ref a := rx
  refine getattr_ok I1 ea c n l fun u s2 I2 ru => thn (hv pins s2 σ H1 _ I2 q) fun w3 s3 ⟨y, H2, I3, ry, q3⟩ => thn (hop pins s3 σ H2 v y u w3 _ I3 ru ry q3) fun w4 s4 ⟨z, H3, I4, rz, dx', fs', ea', l', q4⟩ => ?_
  exact setattr_ok I4 ea' c n l' rz fun s5 I5 => ⟨σ, _, I5, q4⟩
def rAdd : V → V → Hp → VK → Prop := fun x y H Q => ∃ i j, x = .int i ∧ y = .int j ∧ Q (.int (i + j)) H
def rSub : V → V → Hp → VK → Prop := fun x y H Q => ∃ i j, x = .int i ∧ y = .int j ∧ Q (.int (i - j)) H
theorem in_add : InOp X .Add rAdd := by
  rintro pins s σ H x y u v Q I rx ry ⟨i, j, rfl, rfl, q⟩
  obtain ⟨t, rfl⟩ := (show ∃ t, u = Value.int i t from rx)
  obtain ⟨t', rfl⟩ := (show ∃ t', v = Value.int j t' from ry)
  exact PyProof.Rows.iadd_int ⟨.int (i + j), H, I.tok _, ⟨_, rfl⟩, q⟩
theorem in_sub : InOp X .Sub rSub := by
  rintro pins s σ H x y u v Q I rx ry ⟨i, j, rfl, rfl, q⟩
  obtain ⟨t, rfl⟩ := (show ∃ t, u = Value.int i t from rx)
  obtain ⟨t', rfl⟩ := (show ∃ t', v = Value.int j t' from ry)
  exact PyProof.Rows.isub_int ⟨.int (i - j), H, I.tok _, ⟨_, rfl⟩, q⟩

/-- what is between an instance and its method: the tree of a method call -/
theorem methcall_of {pl : Sem Bool} {m : Str} {apos : Pos} {args : List Expr} {pins : List (Addr × Obj)} {s : Shared} {σ : St} {H : Hp} {Q : Value → Shared → Prop} {te : TE} (he : PE X e te) (I : Inv X pins σ H s)
    (h : te σ H fun x H1 => ∃ a C dx fs g, x = .ref a ∧ H1 a = some (.ins C dx fs) ∧ Cls X.K C ∧ Meth X.K C m g ∧ fs.lookup m = none ∧
      ∀ s1, Inv X pins σ H1 s1 → wpAny (model X.prog X.w) X.A (callWith pos (.ref g) [.ref a] (backTo pos (starEach args X.env)) (backToKw pos (keywordEach [] X.env))) Q X.xe s1)
    (ht : eval (.Call (.Attribute e m apos) args [] pos) X.env = (do
      let ov ← eval e X.env
      standAt apos.atName
      let (f, first) ← holding [ov] (getMethod ov m pl)
      callWith pos f first (backTo pos (starEach args X.env)) (backToKw pos (keywordEach [] X.env)))) :
    wpAny (model X.prog X.w) X.A (eval (.Call (.Attribute e m apos) args [] pos) X.env) Q X.xe s := by
  refine PySem.W.methodCall_KW (pl := pl) (thn (he pins s σ H _ I h) fun u s1 ⟨x, H1, I1, rx, a, C, dx, fs, g, ex, ea, c, k, l, q⟩ => ?_) ht
  subst ex
  obtain rfl : u = Value.ref a := rx
  exact getmeth_ok I1 ea c k l (q s1 I1)
end

/-! ### isinstance -/
section
variable {X : Cx} {pins : List (Addr × Obj)} {σ : St} {H : Hp} {s : Shared} {A : Around} {E : Value → Shared → Prop} {Q : Value → Shared → Prop} {c : Value} {b : Bool}
/-- the type of a value, as the fragment's deciders take it; for an instance its class -/
inductive TyOf (K : PySem.W.Frag) (H : Hp) : V → Value → Prop where
  | non : TyOf K H .non (.type "NoneType")
  | bl (x : Bool) : TyOf K H (.bl x) (.type "bool")
  | int (i : Int) : TyOf K H (.int i) (.type "int")
  | str (x : Str) : TyOf K H (.str x) (.type "str")
  | flt (x : UInt64) : TyOf K H (.flt x) (.type "float")
  | lst {a : Addr} {xs : List V} (e : H a = some (.lst xs)) : TyOf K H (.ref a) (.type "list")
  | frz {a : Addr} {o : Obj} {xs : List V} (e : H a = some (.frz o (.lst xs))) : TyOf K H (.ref a) (.type "list")
  | tup {a : Addr} {xs : List V} (e : H a = some (.tup xs)) : TyOf K H (.ref a) (.type "tuple")
  | dK {a : Addr} {kvs : List (Key × V)} (e : H a = some (.dK kvs)) : TyOf K H (.ref a) (.type "dict")
  | dT {a : Addr} {kvs : List (List Key × V)} (e : H a = some (.dT kvs)) : TyOf K H (.ref a) (.type "dict")
  | ins {a C dx : Addr} {fs : List (Str × V)} (e : H a = some (.ins C dx fs)) (cl : Cls K C) (ha : PySem.W.findIn K (.ref C) "__class__" = some (some (.builtin "object.__class__")))
      (hn : PySem.W.specialIn K (.builtin "object.__class__") "__get__" = some (some (.builtin "getset_descriptor.__get__"))) (htk : PySem.W.takesIn K (.builtin "object.__class__") = some true)
      (hm : PySem.W.mroIn K C (.type "object") = some true) : TyOf K H (.ref a) (.ref C)
/-- isinstance(x, c) for one class c, a built-in or an own one: kitOne's answer -/
theorem isinst_ok {x : V} {u t : Value} (I : Inv X pins σ H s) (rx : RelV x u) (ty : TyOf X.K H x t) (e : PySem.W.kitOne X.K t c = some b) (h : ∀ tk, Q (.bool b) { s with toks := tk }) :
    wpAny (model X.prog X.w) A (call (.builtin "isinstance") [u, c]) Q E s := by
  cases ty with
  | non => cases (show u = Value.none from rx); exact PySem.W.kia_one PySem.W.kitx_none I.kIn True.intro e (fun z => nomatch z) h
  | bl y => cases (show u = Value.bool y from rx); exact PySem.W.kia_one PySem.W.kitx_bool I.kIn True.intro e (fun z => nomatch z) h
  | int i => obtain ⟨t, q⟩ := (show ∃ t, u = Value.int i t from rx); cases q; exact PySem.W.kia_one PySem.W.kitx_int I.kIn True.intro e (fun z => nomatch z) h
  | str y => obtain ⟨t, q⟩ := (show ∃ t, u = Value.str y t from rx); cases q; exact PySem.W.kia_one PySem.W.kitx_str I.kIn True.intro e (fun z => nomatch z) h
  | flt y => obtain ⟨t, q⟩ := (show ∃ t, u = Value.float y t from rx); cases q; exact PySem.W.kia_one PySem.W.kitx_float I.kIn True.intro e (fun z => nomatch z) h
  | @lst a xs ea =>
    cases (show u = Value.ref a from rx)
    obtain ⟨_, _, n, _, h1⟩ := (show ObjOk X.prog X.w H s.heap a (.lst xs) from I.hok a _ ea)
    exact PySem.W.kia_one PySem.W.kitx_list I.kIn ⟨_, h1, rfl⟩ e (fun z => nomatch z) h
  | @frz a ob xs ea =>
    cases (show u = Value.ref a from rx)
    obtain ⟨_, _, _, n, _, h1⟩ := (show ObjOk X.prog X.w H s.heap a (.frz ob (.lst xs)) from I.hok a _ ea)
    exact PySem.W.kia_one PySem.W.kitx_list I.kIn ⟨_, h1, rfl⟩ e (fun z => nomatch z) h
  | @tup a xs ea =>
    cases (show u = Value.ref a from rx)
    obtain ⟨_, _, _, p⟩ := (show ObjOk X.prog X.w H s.heap a (.tup xs) from I.hok a _ ea)
    obtain ⟨o, h1, h2, _⟩ := p
    exact PySem.W.kia_one PySem.W.kitx_tuple I.kIn ⟨o, h1, h2⟩ e (fun z => nomatch z) h
  | @dK a kvs ea =>
    cases (show u = Value.ref a from rx)
    obtain ⟨_, _, vs, _, p⟩ := (show ObjOk X.prog X.w H s.heap a (.dK kvs) from I.hok a _ ea)
    obtain ⟨o, es, ep, h1, h2, _⟩ := p
    exact PySem.W.kia_one PySem.W.kitx_dict I.kIn ⟨o, h1, h2.1⟩ e (fun z => nomatch z) h
  | @dT a kvs ea =>
    cases (show u = Value.ref a from rx)
    obtain ⟨_, _, xs, _, o, es, ep, h1, h2, _⟩ := (show ObjOk X.prog X.w H s.heap a (.dT kvs) from I.hok a _ ea)
    exact PySem.W.kia_one PySem.W.kitx_dict I.kIn ⟨o, h1, h2.1⟩ e (fun z => nomatch z) h
  | @ins a C dx fs ea cl ha hn htk hm =>
    cases (show u = Value.ref a from rx)
    obtain ⟨mA, O, _⟩ := ins_get I.hok ea
    obtain ⟨od, J, _⟩ := O.look
    exact PySem.W.kia_one (PySem.W.kitx_own (cl.get _) cl.hd ha hn htk hm) I.kIn J e (fun z => nomatch z) h
end
end L2

namespace L2
open PySem PySem.Spec PyProof.Rows

/-! ### room -/
structure Room (k : Nat) (A : Around) : Prop where
  hd : A.handled = none
  dp : A.depth + 3 * k + 5 < recursionLimit
  un : A.units + 16 * k + 200 < cLine
theorem Room.mono {j k : Nat} {A : Around} (r : Room k A) (h : j ≤ k) : Room j A := ⟨r.hd, by have := r.dp; omega, by have := r.un; omega⟩
theorem Room.deeper {k : Nat} {A : Around} (r : Room (k + 1) A) (env : Env) : Room k (A.deeper env) :=
  ⟨r.hd, by have := r.dp; show A.depth + 1 + 3 * k + 5 < _; omega, by have := r.un; show A.units + 3 + 16 * k + 200 < _; omega⟩
theorem Room.in1 {k : Nat} {A : Around} (r : Room (k + 1) A) : Room k A.in1 :=
  ⟨r.hd, by have := r.dp; show A.depth + 3 * k + 5 < _; omega, by have := r.un; show A.units + 1 + 16 * k + 200 < _; omega⟩
theorem make_depth {A : Around} {C : Addr} {us : List Value} {kw : List (Str × Value)} : (A.under (.builtin "type.__call__" ⟨.ref C :: us, kw⟩)).depth = A.depth + 1 := by
  first | rfl | simp [Around.under, Code.weight, Code.isCreation, Code.isGuard, Code.isCaller, Code.frames, Code.isFrame, guardIds]
theorem make_units {A : Around} {C : Addr} {us : List Value} {kw : List (Str × Value)} : (A.under (.builtin "type.__call__" ⟨.ref C :: us, kw⟩)).units = A.units + 1 := by
  first | rfl | simp [Around.under, Code.cUnits, Code.frames, Code.isFrame]
theorem Room.make {k : Nat} {A : Around} (r : Room (k + 1) A) (C : Addr) (us : List Value) (kw : List (Str × Value)) : Room k (A.under (.builtin "type.__call__" ⟨.ref C :: us, kw⟩)) :=
  ⟨r.hd, by have := r.dp; rw [make_depth]; omega, by have := r.un; rw [make_units]; omega⟩
theorem Room.depth {k : Nat} {A : Around} (r : Room k A) : A.depth < recursionLimit := by have := r.dp; omega
theorem Room.units {k : Nat} {A : Around} (r : Room k A) : A.units + 64 < cLine := by have := r.un; omega
theorem Room.units0 {k : Nat} {A : Around} (r : Room k A) : A.units < cLine := by have := r.un; omega

/-! ### argument lists and displays -/
def tNil : TA := fun _ H Q => Q [] H
def tCons (ta : TE) (tr : TA) : TA := fun σ H Q => ta σ H fun x H1 => tr σ H1 fun xs H2 => Q (x :: xs) H2
section
variable {X : Cx} {e : Expr} {es : List Expr} {te : TE} {t : TA} {pos : Pos}
theorem pa_nil : PA X [] tNil := fun _ _ _ _ H Q I h => Calls.spliced_nil ⟨[], H, I, .nil, h⟩
theorem pa_cons (ha : PE X e te) (hr : PA X es t) (hs : starEach (e :: es) X.env = (false, eval e X.env) :: starEach es X.env := by rfl) : PA X (e :: es) (tCons te t) := by
  intro pos pins s σ H Q I h
  rw [hs]
  show wpAny _ _ (spliced ((false, eval e X.env) :: backTo pos (starEach es X.env))) _ _ s
  refine Calls.spliced_cons (thn (ha pins s σ H _ I h) fun u s1 ⟨x, H1, I1, r1, q1⟩ => ?_)
  exact thn (hr pos pins s1 σ H1 _ I1 q1) fun us s2 ⟨xs, H2, I2, r2, q2⟩ => ⟨x :: xs, H2, I2, .cons r1 r2, q2⟩

/-- a tuple, a list of written items -/
def tTup (t : TA) : TE := fun σ H Q => t σ H fun xs H1 => xs.length ≤ sizeLine ∧ ∀ p, H1 p = none → Q (.ref p) (upd H1 p (.tup xs))
def tLst (t : TA) : TE := fun σ H Q => t σ H fun xs H1 => xs.length ≤ sizeLine ∧ ∀ p, H1 p = none → Q (.ref p) (upd H1 p (.lst xs))
theorem pe_tup {x1} (h : PA X es t) : PE X (.Tuple es x1 pos) (tTup t) := by
  intro pins s σ H Q I hq
  refine wpAny_Tuple_spliced (thn (h pos pins s σ H _ I hq) fun us s1 ⟨xs, H1, I1, r, z, q⟩ => ⟨by rw [← r.length]; exact z, ?_⟩)
  have hf : H1 s1.heap.objs.size = none := I1.hok.fresh (Nat.le_refl _)
  refine ⟨.ref s1.heap.objs.size, upd H1 s1.heap.objs.size (.tup xs), I1.laid (t' := s1.toks) (fun b u e => Heap.get?_push_of_some _ e) (Nat.le_refl _) ?_, rfl, q _ hf⟩
  exact ⟨z, us, r, ⟨_, Heap.get?_push_size _ rfl, rfl, _, rfl⟩⟩
theorem pe_lst (h : PA X es t) : PE X (.List es pos) (tLst t) := by
  intro pins s σ H Q I hq
  refine wpAny_List_spliced (thn (h pos pins s σ H _ I hq) fun us s1 ⟨xs, H1, I1, r, z, q⟩ => ⟨by rw [← r.length]; exact z, ?_⟩)
  have hf : H1 s1.heap.objs.size = none := I1.hok.fresh (Nat.le_refl _)
  refine ⟨.ref s1.heap.objs.size, upd H1 s1.heap.objs.size (.lst xs), I1.laid (t' := s1.toks) (fun b u e => Heap.get?_push_of_some _ e) (Nat.le_refl _) ?_, rfl, q _ hf⟩
  exact ⟨z, us, 0, r, Heap.get?_push_size _ rfl⟩
end

/-! ### what a def promises -/
/-- a def's promise: the bound arguments in the parameters' order, the heap, the wanted end, the wanted exception -/
abbrev Sp := List V → Hp → VK → XK → Prop
/-- how an exception lies behind a call (file 08 gives it): the callers' frames, abstract heap and state ahead of the call, the wish, the exception, the state -/
abbrev CXT := List Env → Hp → Shared → XK → Value → Shared → Prop

/-- the state at a call -/
structure Env0 (P : Program) (w : World) (K : PySem.W.Frag) (mg : Str → Option Value) (base : Heap) (A : Around) (outer : List Env) (s : Shared) (H : Hp) : Prop where
  frames : A.frames = some outer
  mod : Mod K mg base
  bs : ∀ b o, base.get? b = some o → s.heap.get? b = some o ∧ H b = none
  bsz : base.objs.size ≤ s.heap.objs.size
  funs : s.heap.FunFrames base outer
  frf : ∀ b ∈ frs outer, H b = none
  hok : HOk P w H s.heap
  bare : AllBare s.gens
/-- a call's end -/
def CE (outer : List Env) (P : Program) (w : World) (H : Hp) (s : Shared) (Q : VK) (u : Value) (s' : Shared) : Prop :=
  ∃ v H', s'.os = s.os ∧ AllBare s'.gens ∧ Un (frs outer) [] H H' s.heap s'.heap ∧ HOk P w H' s'.heap ∧ RelV v u ∧ Q v H'
def CR (CX : CXT) (outer : List Env) (P : Program) (w : World) (H : Hp) (s : Shared) (Q : VK) (E : XK) (r : Result) (s' : Shared) : Prop :=
  match r with
  | .ok (.ret u) => CE outer P w H s Q u s'
  | .ok _ => False
  | .error e => CX outer H s E e s'
structure FnOk (P : Program) (w : World) (K : PySem.W.Frag) (mg : Str → Option Value) (base : Heap) (CX : CXT) (k : Nat) (f : Addr) (fd : FuncData) (ps : List Str) (sp : Sp) : Prop where
  len : ∀ vs H Q E, sp vs H Q E → vs.length = ps.length
  run : ∀ (A : Around) (outer : List Env) (s : Shared) (H : Hp) (args : Args) (us : List Value) (vs : List V) (Q : VK) (E : XK), Room k A → Env0 P w K mg base A outer s H → BindsTo s fd args (ps.zip us) → Vals vs us → sp vs H Q E →
    codeAny (model P w) A (.call (.ref f) args) (CR CX outer P w H s Q E) s
theorem FnOk.mono {P : Program} {w : World} {K : PySem.W.Frag} {mg : Str → Option Value} {base : Heap} {CX : CXT} {j k : Nat} {f : Addr} {fd : FuncData} {ps : List Str} {sp : Sp} (F : FnOk P w K mg base CX j f fd ps sp) (h : j ≤ k) :
    FnOk P w K mg base CX k f fd ps sp := ⟨F.len, fun A outer s H args us vs Q E hr => F.run A outer s H args us vs Q E (hr.mono h)⟩
/-- a weaker promise -/
theorem FnOk.imp {P : Program} {w : World} {K : PySem.W.Frag} {mg : Str → Option Value} {base : Heap} {CX : CXT} {k : Nat} {f : Addr} {fd : FuncData} {ps : List Str} {sp sp' : Sp} (F : FnOk P w K mg base CX k f fd ps sp)
    (h : ∀ vs H Q E, sp' vs H Q E → sp vs H Q E) : FnOk P w K mg base CX k f fd ps sp' :=
  ⟨fun vs H Q E q => F.len vs H Q E (h _ _ _ _ q), fun A outer s H args us vs Q E hr he hb hv hs => F.run A outer s H args us vs Q E hr he hb hv (h _ _ _ _ hs)⟩

theorem Env0.make {P : Program} {w : World} {K : PySem.W.Frag} {mg : Str → Option Value} {base : Heap} {A : Around} {outer : List Env} {s : Shared} {H : Hp} (e : Env0 P w K mg base A outer s H) (C : Addr) (us : List Value) (kw : List (Str × Value)) :
    Env0 P w K mg base (A.under (.builtin "type.__call__" ⟨.ref C :: us, kw⟩)) outer s H := ⟨by first | exact e.frames | (simpa [Around.under, Code.envs, Code.isFrame, pushEnvs] using e.frames), e.mod, e.bs, e.bsz, e.funs, e.frf, e.hok, e.bare⟩
theorem Env0.in1 {P : Program} {w : World} {K : PySem.W.Frag} {mg : Str → Option Value} {base : Heap} {A : Around} {outer : List Env} {s : Shared} {H : Hp} (e : Env0 P w K mg base A outer s H) :
    Env0 P w K mg base A.in1 outer s H := ⟨e.frames, e.mod, e.bs, e.bsz, e.funs, e.frf, e.hok, e.bare⟩

section
variable {X : Cx} {pins : List (Addr × Obj)} {σ : St} {H : Hp} {s s' : Shared}
/-- from a body: what a callee wants -/
theorem Inv.env0 (I : Inv X pins σ H s) : Env0 X.prog X.w X.K X.mg X.base X.A X.stack s H :=
  ⟨I.ok.frames, I.ok.mod, I.bs, Nat.le_trans I.ok.bsz I.sz, I.stack, I.stkFree, I.hok, I.bare⟩
/-- behind a call -/
theorem Inv.after {Q : VK} {u : Value} (I : Inv X pins σ H s) (h : CE X.stack X.prog X.w H s Q u s') : EP X pins σ Q u s' := by
  obtain ⟨v, H', os, bare, un, hok, r, q⟩ := h
  obtain ⟨hh, g, d, t, os'⟩ := s'
  obtain rfl : os' = s.os := os
  exact ⟨v, H', I.call (h' := hh) (g' := g) (d' := d) (t' := t) (ch := []) un hok bare (fun b z => absurd z (by simp)), r, q⟩
end

/-! ### calls -/
/-- f(..): the written arguments, then the defaults dvs; E: what is wanted of an exception -/
def tCall (sp : Sp) (dvs : List V) (E : XK) (t : TA) : TE := fun σ H Q => t σ H fun vs H1 => sp (vs ++ dvs) H1 Q E
/-- o.m(..) of an instance of the class at C -/
def tMeth (C : Addr) (m : Str) (sp : Sp) (dvs : List V) (E : XK) (ta : TE) (t : TA) : TE := fun σ H Q => ta σ H fun x H1 => ∃ a dx fs, x = .ref a ∧ H1 a = some (.ins C dx fs) ∧ fs.lookup m = none ∧
  t σ H1 fun vs H2 => sp (x :: (vs ++ dvs)) H2 Q E
/-- C(..): a new instance and its dict, then __init__ -/
def tMake (C : Addr) (sp : Sp) (dvs : List V) (E : XK) (t : TA) : TE := fun σ H Q => t σ H fun vs H1 => ∀ x dx, H1 x = none → H1 dx = none → dx ≠ x →
  sp (.ref x :: (vs ++ dvs)) (upd (upd H1 dx (.own x)) x (.ins C dx [])) (fun v H2 => v = .non ∧ Q (.ref x) H2) E

/-- how the parameters are bound: us the positional arguments, kw the keywords' values by name, ds the defaults that fill up -/
def Binds (K : PySem.W.Frag) (fd : FuncData) (ps : List Str) (ds : List Value) : Prop :=
  ∀ (s : Shared) (us : List Value), K.In s.heap → (us ++ ds).length = ps.length → BindsTo s fd ⟨us, []⟩ (ps.zip (us ++ ds))
/-- every parameter is given -/
theorem Binds.all {K : PySem.W.Frag} {fd : FuncData} {ps : List Str} (h : ∀ us : List Value, us.length = ps.length → bindArgs fd ⟨us, []⟩ = pure (ps.zip us)) : Binds K fd ps [] := fun s us _ hl => by
  rw [List.append_nil] at hl ⊢
  exact .of_eq (h us hl)

/-- an exception of a callee reaches what this body wants of exceptions -/
def Passes (CX : CXT) (X : Cx) (E : XK) : Prop := ∀ (pins : List (Addr × Obj)) (σ : St) (H : Hp) (s : Shared) (e : Value) (s' : Shared), Inv X pins σ H s → CX X.stack H s E e s' → X.xe e s'

section
variable {X : Cx} {CX : CXT} {k : Nat} {f C : Addr} {fd : FuncData} {ps : List Str} {sp : Sp} {dvs : List V} {ds : List Value} {E : XK} {x m : Str} {p pos apos : Pos} {e o : Expr} {es : List Expr} {ta : TE} {t : TA}

/-- the callee runs -/
theorem run_fn {pins : List (Addr × Obj)} {σ : St} {H : Hp} {s : Shared} {Q : VK} {us : List Value} {vs : List V} (F : FnOk X.prog X.w X.K X.mg X.base CX k f fd ps sp) (hr : Room k X.A) (hb : Binds X.K fd ps ds) (hd : Vals dvs ds) (hx : Passes CX X E)
    (I : Inv X pins σ H s) (r : Vals vs us) (h : sp (vs ++ dvs) H Q E) : wpAny (model X.prog X.w) X.A (call (.ref f) us) (EP X pins σ Q) X.xe s := by
  have r2 : Vals (vs ++ dvs) (us ++ ds) := r.append hd
  have hl : (us ++ ds).length = ps.length := by rw [← r2.length]; exact F.len _ _ _ _ h
  refine wpAny_call (codeAny_mono (F.run X.A X.stack s H ⟨us, []⟩ (us ++ ds) (vs ++ dvs) Q E hr I.env0 (hb s us I.kIn hl) r2 h) fun r s' hq => ?_)
  cases r with
  | error e => exact hx pins σ H s e s' I hq
  | ok fl =>
    cases fl with
    | ret u => exact I.after hq
    | next => exact False.elim hq
    | brk => exact False.elim hq
    | cont => exact False.elim hq

theorem pe_call (F : FnOk X.prog X.w X.K X.mg X.base CX k f fd ps sp) (hr : Room k X.A) (hg : Gl X x) (hm : X.mg x = some (.ref f)) (hk : PySem.W.keepIn X.K (.ref f) = true) (hb : Binds X.K fd ps ds) (hd : Vals dvs ds) (hx : Passes CX X E)
    (ha : PA X (e :: es) t) (hdb : (x == ("__debug__" : Str)) = false := by decide) (he : starEach (e :: es) X.env = (false, eval e X.env) :: starEach es X.env := by rfl) (hpl : (backTo pos (starEach es X.env)).any (·.1) = false := by rfl) :
    PE X (.Call (.Name x p) (e :: es) [] pos) (tCall sp dvs E t) := by
  intro pins s σ H Q I h
  refine wpAny_Call_Name_kw (ld_glob I hg hm ?_ hdb)
  refine PySem.W.callWith_K (h₀ := X.base) I.ok.mod.kin hk (thn (ha pos pins s σ H _ I h) fun us s1 ⟨vs, H1, I1, r, q⟩ => ⟨I1.kIn, ?_⟩) he hpl
  exact run_fn F hr hb hd hx I1 r q
theorem pe_call0 (F : FnOk X.prog X.w X.K X.mg X.base CX k f fd ps sp) (hr : Room k X.A) (hg : Gl X x) (hm : X.mg x = some (.ref f)) (hk : PySem.W.keepIn X.K (.ref f) = true) (hb : Binds X.K fd ps ds) (hd : Vals dvs ds) (hx : Passes CX X E)
    (hdb : (x == ("__debug__" : Str)) = false := by decide) : PE X (.Call (.Name x p) [] [] pos) (tCall sp dvs E tNil) := by
  intro pins s σ H Q I h
  refine wpAny_Call_Name_kw (ld_glob I hg hm ?_ hdb)
  exact PySem.W.callWith_K0 I.kIn hk (run_fn (us := []) F hr hb hd hx I .nil h)

/-- o.m(e, ..) -/
theorem pe_meth {pl : Sem Bool} (he : PE X o ta) (c : Cls X.K C) (hm : Meth X.K C m f) (F : FnOk X.prog X.w X.K X.mg X.base CX k f fd ps sp) (hr : Room k X.A) (hb : Binds X.K fd ps ds) (hd : Vals dvs ds) (hx : Passes CX X E) (ha : PA X (e :: es) t)
    (hst : starEach (e :: es) X.env = (false, eval e X.env) :: starEach es X.env := by rfl) (hpl : (backTo pos (starEach es X.env)).any (·.1) = false := by rfl)
    (ht : eval (.Call (.Attribute o m apos) (e :: es) [] pos) X.env = (do
      let ov ← eval o X.env
      standAt apos.atName
      let (f, first) ← holding [ov] (getMethod ov m pl)
      callWith pos f first (backTo pos (starEach (e :: es) X.env)) (backToKw pos (keywordEach [] X.env))) := by rfl) :
    PE X (.Call (.Attribute o m apos) (e :: es) [] pos) (tMeth C m sp dvs E ta t) := by
  intro pins s σ H Q I h
  refine PySem.W.methodCall_KW (pl := pl) (thn (he pins s σ H _ I h) fun u s1 ⟨x, H1, I1, rx, a, dx, fs, ex, ea, l, q⟩ => ?_) ht
  subst ex
  obtain rfl : u = Value.ref a := rx
  refine getmeth_ok I1 ea c hm l ?_
  refine PySem.W.callWith_K (first := [.ref a]) (h₀ := X.base) I.ok.mod.kin hm.kp (thn (ha pos pins s1 σ H1 _ I1 q) fun us s2 ⟨vs, H2, I2, r, q2⟩ => ⟨I2.kIn, ?_⟩) hst hpl
  exact run_fn (us := .ref a :: us) (vs := .ref a :: vs) F hr hb hd hx I2 (.cons rfl r) q2
/-- o.m() -/
theorem pe_meth0 {pl : Sem Bool} (he : PE X o ta) (c : Cls X.K C) (hm : Meth X.K C m f) (F : FnOk X.prog X.w X.K X.mg X.base CX k f fd ps sp) (hr : Room k X.A) (hb : Binds X.K fd ps ds) (hd : Vals dvs ds) (hx : Passes CX X E)
    (ht : eval (.Call (.Attribute o m apos) [] [] pos) X.env = (do
      let ov ← eval o X.env
      standAt apos.atName
      let (f, first) ← holding [ov] (getMethod ov m pl)
      callWith pos f first (backTo pos (starEach [] X.env)) (backToKw pos (keywordEach [] X.env))) := by rfl) :
    PE X (.Call (.Attribute o m apos) [] [] pos) (tMeth C m sp dvs E ta tNil) := by
  intro pins s σ H Q I h
  refine PySem.W.methodCall_KW (pl := pl) (thn (he pins s σ H _ I h) fun u s1 ⟨x, H1, I1, rx, a, dx, fs, ex, ea, l, q⟩ => ?_) ht
  subst ex
  obtain rfl : u = Value.ref a := rx
  refine getmeth_ok I1 ea c hm l ?_
  exact PySem.W.callWith_K0 (first := [.ref a]) I1.kIn hm.kp (run_fn (us := [.ref a]) (vs := [.ref a]) F hr hb hd hx I1 (.cons rfl .nil) q)

/-- what a class must have to be made -/
structure Mk (K : PySem.W.Frag) (C f : Addr) : Prop where
  makes : PySem.W.makesIn K C = true
  init : PySem.W.findIn K (.ref C) "__init__" = some (some (.ref f))
  fn : PySem.W.isFn K (.ref f) = true
  kp : PySem.W.keepIn K (.ref C) = true

theorem run_make {pins : List (Addr × Obj)} {σ : St} {H : Hp} {s : Shared} {Q : VK} {us : List Value} {vs : List V} (M : Mk X.K C f) (F : FnOk X.prog X.w X.K X.mg X.base CX k f fd ps sp) (hr : Room (k + 1) X.A) (hb : Binds X.K fd ps ds) (hd : Vals dvs ds)
    (hx : Passes CX X E) (I : Inv X pins σ H s) (r : Vals vs us)
    (h : ∀ x dx, H x = none → H dx = none → dx ≠ x → sp (.ref x :: (vs ++ dvs)) (upd (upd H dx (.own x)) x (.ins C dx [])) (fun v H2 => v = .non ∧ Q (.ref x) H2) E) :
    wpAny (model X.prog X.w) X.A (call (.ref C) us) (EP X pins σ Q) X.xe s := by
  have hq := h (s.heap.objs.size + 1) s.heap.objs.size (I.hok.fresh (Nat.le_succ _)) (I.hok.fresh (Nat.le_refl _)) (Nat.ne_of_lt (Nat.lt_succ_self _))
  have I2 := Inv.made (C := C) I
  have r2 : Vals (V.ref (s.heap.objs.size + 1) :: (vs ++ dvs)) (Value.ref (s.heap.objs.size + 1) :: (us ++ ds)) := .cons rfl (r.append hd)
  have hl : (Value.ref (s.heap.objs.size + 1) :: us ++ ds).length = ps.length := by
    have e := r2.length
    rw [F.len _ _ _ _ hq] at e
    exact e.symm
  refine wpAny_call (make_map (f := f) I.kIn M.makes M.init (beq_iff_eq.mp M.fn) (codeAny_mono (F.run _ X.stack _ _ ⟨Value.ref (s.heap.objs.size + 1) :: us, []⟩ (Value.ref (s.heap.objs.size + 1) :: (us ++ ds)) _ _ E (hr.make C us [])
    (I2.env0.make C us []) (hb _ (Value.ref (s.heap.objs.size + 1) :: us) I2.kIn hl) r2 hq) fun r s' hq' => ?_))
  cases r with
  | error e => exact hx pins σ _ _ e s' I2 hq'
  | ok fl =>
    cases fl with
    | ret u =>
      obtain ⟨v, H', I3, rv, ev, q3⟩ := I2.after hq'
      subst ev
      exact ⟨rv, ⟨V.ref (s.heap.objs.size + 1), H', I3, rfl, q3⟩⟩
    | next => exact False.elim hq'
    | brk => exact False.elim hq'
    | cont => exact False.elim hq'
theorem pe_make (M : Mk X.K C f) (F : FnOk X.prog X.w X.K X.mg X.base CX k f fd ps sp) (hr : Room (k + 1) X.A) (hg : Gl X x) (hm : X.mg x = some (.ref C)) (hb : Binds X.K fd ps ds) (hd : Vals dvs ds) (hx : Passes CX X E)
    (ha : PA X (e :: es) t) (hdb : (x == ("__debug__" : Str)) = false := by decide) (he : starEach (e :: es) X.env = (false, eval e X.env) :: starEach es X.env := by rfl) (hpl : (backTo pos (starEach es X.env)).any (·.1) = false := by rfl) :
    PE X (.Call (.Name x p) (e :: es) [] pos) (tMake C sp dvs E t) := by
  intro pins s σ H Q I h
  refine wpAny_Call_Name_kw (ld_glob I hg hm ?_ hdb)
  refine PySem.W.callWith_K (h₀ := X.base) I.ok.mod.kin M.kp (thn (ha pos pins s σ H _ I h) fun us s1 ⟨vs, H1, I1, r, q⟩ => ⟨I1.kIn, ?_⟩) he hpl
  exact run_make M F hr hb hd hx I1 r q
theorem pe_make0 (M : Mk X.K C f) (F : FnOk X.prog X.w X.K X.mg X.base CX k f fd ps sp) (hr : Room (k + 1) X.A) (hg : Gl X x) (hm : X.mg x = some (.ref C)) (hb : Binds X.K fd ps ds) (hd : Vals dvs ds) (hx : Passes CX X E)
    (hdb : (x == ("__debug__" : Str)) = false := by decide) : PE X (.Call (.Name x p) [] [] pos) (tMake C sp dvs E tNil) := by
  intro pins s σ H Q I h
  refine wpAny_Call_Name_kw (ld_glob I hg hm ?_ hdb)
  exact PySem.W.callWith_K0 I.kIn M.kp (run_make (us := []) M F hr hb hd hx I .nil h)
end

/-! ### keywords -/
/-- the values of the keywords, from the left -/
def PK (X : Cx) (kws : List Keyword) (t : TA) : Prop :=
  ∀ (pos : Pos) (pins : List (Addr × Obj)) (s : Shared) (σ : St) (H : Hp) (Q : List V → Hp → Prop), Inv X pins σ H s → t σ H Q → wpAny (model X.prog X.w) X.A (evalAll ((backToKw pos (keywordEach kws X.env)).map (·.2))) (AP X pins σ Q) X.xe s
section
variable {X : Cx} {CX : CXT} {k : Nat} {f C : Addr} {fd : FuncData} {ps ks : List Str} {sp : Sp} {E : XK} {x m : Str} {p pos apos kpos : Pos} {e o : Expr} {es : List Expr} {kws : List Keyword} {te ta : TE} {t tk : TA} {nm : Option Str}
theorem pk_nil : PK X [] tNil := fun _ _ _ _ H Q I h => wpAny_evalAll_nil ⟨[], H, I, .nil, h⟩
theorem pk_cons (ha : PE X e te) (hr : PK X kws t) : PK X (⟨nm, e, kpos⟩ :: kws) (tCons te t) := by
  intro pos pins s σ H Q I h
  show wpAny _ _ (evalAll ((do let v ← eval e X.env; standAt pos; pure v) :: (backToKw pos (keywordEach kws X.env)).map (·.2))) _ _ s
  refine wpAny_evalAll_cons (wpAny_bind (thn (ha pins s σ H _ I h) fun u s1 ⟨x, H1, I1, r1, q1⟩ => wpAny_bind (wpAny_standAt (wpAny_pure ?_))))
  exact thn (hr pos pins s1 σ H1 _ I1 q1) fun us s2 ⟨xs, H2, I2, r2, q2⟩ => ⟨x :: xs, H2, I2, .cons r1 r2, q2⟩

/-- how a call with keywords binds: g puts the positional values us and the keywords' values ws (names ks) in the parameters' order, defaults among them -/
structure KBinds (K : PySem.W.Frag) (fd : FuncData) (ps ks : List Str) (g : List Value → List Value → List Value) (gV : List V → List V → List V) : Prop where
  to : ∀ (s : Shared) (us ws : List Value), K.In s.heap → (g us ws).length = ps.length → BindsTo s fd ⟨us, ks.zip ws⟩ (ps.zip (g us ws))
  rel : ∀ {vs : List V} {us : List Value} {zs : List V} {ws : List Value}, Vals vs us → Vals zs ws → Vals (gV vs zs) (g us ws)
def tCallK (sp : Sp) (gV : List V → List V → List V) (E : XK) (t tk : TA) : TE := fun σ H Q => t σ H fun vs H1 => tk σ H1 fun zs H2 => sp (gV vs zs) H2 Q E
variable {g : List Value → List Value → List Value} {gV : List V → List V → List V}
theorem run_fnk {pins : List (Addr × Obj)} {σ : St} {H : Hp} {s : Shared} {Q : VK} {us ws : List Value} {vs zs : List V} (F : FnOk X.prog X.w X.K X.mg X.base CX k f fd ps sp) (hr : Room k X.A) (hb : KBinds X.K fd ps ks g gV) (hx : Passes CX X E)
    (I : Inv X pins σ H s) (r : Vals vs us) (rz : Vals zs ws) (h : sp (gV vs zs) H Q E) : wpAny (model X.prog X.w) X.A (call (.ref f) us (ks.zip ws)) (EP X pins σ Q) X.xe s := by
  have r2 := hb.rel r rz
  have hl : (g us ws).length = ps.length := by rw [← r2.length]; exact F.len _ _ _ _ h
  refine wpAny_call (codeAny_mono (F.run X.A X.stack s H ⟨us, ks.zip ws⟩ (g us ws) (gV vs zs) Q E hr I.env0 (hb.to s us ws I.kIn hl) r2 h) fun r s' hq => ?_)
  cases r with
  | error e => exact hx pins σ H s e s' I hq
  | ok fl =>
    cases fl with
    | ret u => exact I.after hq
    | next => exact False.elim hq
    | brk => exact False.elim hq
    | cont => exact False.elim hq
/-- f(e, .., k = v, ..) -/
theorem pe_callK (F : FnOk X.prog X.w X.K X.mg X.base CX k f fd ps sp) (hr : Room k X.A) (hg : Gl X x) (hm : X.mg x = some (.ref f)) (hk : PySem.W.keepIn X.K (.ref f) = true) (hb : KBinds X.K fd ps ks g gV) (hx : Passes CX X E)
    (ha : PA X (e :: es) t) (hkw : PK X kws tk) (hall : (backToKw pos (keywordEach kws X.env)).all (·.1.isSome) = true := by rfl) (hks : (backToKw pos (keywordEach kws X.env)).filterMap (·.1) = ks := by rfl)
    (hdb : (x == ("__debug__" : Str)) = false := by decide) (he : starEach (e :: es) X.env = (false, eval e X.env) :: starEach es X.env := by rfl)
    (hpl : ((backTo pos (starEach (e :: es) X.env)).any (·.1) || (backToKw pos (keywordEach kws X.env)).any (·.1.isNone)) = false := by rfl) :
    PE X (.Call (.Name x p) (e :: es) kws pos) (tCallK sp gV E t tk) := by
  intro pins s σ H Q I h
  refine wpAny_Call_Name_kw (ld_glob I hg hm ?_ hdb)
  refine PySem.W.callWith_KW (h₀ := X.base) I.ok.mod.kin hk hall (thn (ha pos pins s σ H _ I h) fun us s1 ⟨vs, H1, I1, r, q⟩ => ?_) hpl he
  refine thn (hkw pos pins s1 σ H1 _ I1 q) fun ws s2 ⟨zs, H2, I2, rz, q2⟩ => ⟨I2.kIn, ?_⟩
  rw [hks]
  exact run_fnk F hr hb hx I2 r rz q2
end

/-! ### a def's body keeps its promise -/
/-- names: the parameters first -/
structure FnScope (N P : List Str) (sc : Scope) : Prop where
  kind : sc.kind = .function
  co : sc.isCoroutine = false
  gen : sc.isGenerator = false
  nd : N.Nodup
  pre : N.take P.length = P
  par : ∀ x ∈ P, sc.names.lookup x = some .local ∨ sc.names.lookup x = some .cell
  nofree : ∀ y ∈ sc.names, y.2 ≠ .free

theorem bindL_out {kindOf : Str → Option NameKind} {x : Str} : ∀ {binds : List (Str × Value)} {m : Str → Option Value}, (∀ v, (x, v) ∉ binds) → bindL kindOf binds m x = m x
  | [], _, _ => rfl
  | (n, v) :: r, m, h => by
    unfold bindL
    rw [bindL_out fun w hw => h w (List.mem_cons_of_mem _ hw)]
    split
    · have : x ≠ n := by rintro rfl; exact h v List.mem_cons_self
      simp [this]
    · rfl
theorem bindC_out {kindOf : Str → Option NameKind} {x : Str} : ∀ {binds : List (Str × Value)} {m : Str → Option Value}, (∀ v, (x, v) ∉ binds) → bindC kindOf binds m x = m x
  | [], _, _ => rfl
  | (n, v) :: r, m, h => by
    unfold bindC
    rw [bindC_out fun w hw => h w (List.mem_cons_of_mem _ hw)]
    split
    · rfl
    · have : x ≠ n := by rintro rfl; exact h v List.mem_cons_self
      simp [this]
theorem bindL_get {kindOf : Str → Option NameKind} {x : Str} {v : Value} : ∀ {P : List Str} {vs : List Value} {i : Nat} {m : Str → Option Value}, P.Nodup → P[i]? = some x → vs[i]? = some v → kindOf x = some .local →
    bindL kindOf (P.zip vs) m x = some v
  | [], _, _, _, _, h, _, _ => by simp at h
  | _ :: _, [], _, _, _, _, h, _ => by simp at h
  | p :: P, w :: vs, 0, m, nd, h1, h2, hk => by
    simp at h1 h2; subst h1; subst h2
    show bindL kindOf ((p, w) :: P.zip vs) m p = _
    unfold bindL
    rw [bindL_out fun v hv => (List.nodup_cons.mp nd).1 (List.of_mem_zip hv).1, if_pos hk]
    simp
  | p :: P, w :: vs, i + 1, m, nd, h1, h2, hk => by
    show bindL kindOf ((p, w) :: P.zip vs) m x = _
    unfold bindL
    exact bindL_get (i := i) (List.nodup_cons.mp nd).2 (by simpa using h1) (by simpa using h2) hk
theorem bindC_get {kindOf : Str → Option NameKind} {x : Str} {v : Value} : ∀ {P : List Str} {vs : List Value} {i : Nat} {m : Str → Option Value}, P.Nodup → P[i]? = some x → vs[i]? = some v → kindOf x ≠ some .local →
    bindC kindOf (P.zip vs) m x = some v
  | [], _, _, _, _, h, _, _ => by simp at h
  | _ :: _, [], _, _, _, _, h, _ => by simp at h
  | p :: P, w :: vs, 0, m, nd, h1, h2, hk => by
    simp at h1 h2; subst h1; subst h2
    show bindC kindOf ((p, w) :: P.zip vs) m p = _
    unfold bindC
    rw [bindC_out fun v hv => (List.nodup_cons.mp nd).1 (List.of_mem_zip hv).1, if_neg hk]
    simp
  | p :: P, w :: vs, i + 1, m, nd, h1, h2, hk => by
    show bindC kindOf ((p, w) :: P.zip vs) m x = _
    unfold bindC
    exact bindC_get (i := i) (List.nodup_cons.mp nd).2 (by simpa using h1) (by simpa using h2) hk

/-- the names' values at the entry -/
def start (N : List Str) (vs : List V) : St := vs.map some ++ List.replicate (N.length - vs.length) none

/-- the context of a def's body, at its entry; an exception leaves the frame, then lies as CX says -/
def cxOf (CX : CXT) (P : Program) (w : World) (K : PySem.W.Frag) (mg : Str → Option Value) (base : Heap) (N : List Str) (qual : Str) (scope : Scope) (f : Addr) (cd : Value) (A : Around) (outer : List Env) (s : Shared) (H : Hp) (E : XK) : Cx where
  prog := P
  w := w
  K := K
  mg := mg
  base := base
  A := A.deeper (envOfC qual scope s.heap.objs.size f cd)
  N := N
  s₀ := s
  H₀ := H
  env := envOfC qual scope s.heap.objs.size f cd
  outer := outer
  stack := envOfC qual scope s.heap.objs.size f cd :: outer
  ex := []
  calm := true
  fn := fun _ => true
  pn := []
  xe := fun e s' => wpAny (model P w) (A.deeper (envOfC qual scope s.heap.objs.size f cd)) (leaving (envOfC qual scope s.heap.objs.size f cd) e) (fun _ s'' => CX outer H s E e s'') (fun e' s'' => CX outer H s E e' s'') s'

theorem cell_has {sc : Scope} {n : Nat} {x : Str} (h : sc.names.lookup x = some .cell) : ∃ c, (cellsFrom n sc.names []).lookup x = some c := by
  have q := PySem.W.cellsFrom_some sc.names n [] (.inl h)
  exact Option.isSome_iff_exists.mp q

theorem inv_start {CX : CXT} {P : Program} {w : World} {K : PySem.W.Frag} {mg : Str → Option Value} {base : Heap} {N ps : List Str} {qual : Str} {scope : Scope} {f : Addr} {cd : Value} {A : Around} {outer : List Env} {s s1 : Shared} {H : Hp} {E : XK} {us : List Value} {vs : List V}
    (S : FnScope N ps scope) (hd : A.handled = none) (e0 : Env0 P w K mg base A outer s H) (hl : vs.length = ps.length) (r : Vals vs us)
    (x : InCallC s s.heap.objs.size (bindL (envOfC qual scope s.heap.objs.size f cd).kindOf (ps.zip us) fun _ => none) (cellsFrom (s.heap.objs.size + 1) scope.names []) (bindC (envOfC qual scope s.heap.objs.size f cd).kindOf (ps.zip us) fun _ => none) s1) :
    Inv (cxOf CX P w K mg base N qual scope f cd A outer s H E) [] (start N vs) H s1 := by
  have hpl : ps.length ≤ N.length := by have := congrArg List.length S.pre; rw [List.length_take] at this; omega
  obtain ⟨h1, tk, rfl, hk⟩ := x.done
  have noA : ∀ b : Addr, b ∉ (cxOf CX P w K mg base N qual scope f cd A outer s H E).ex := fun b z => absurd (show b ∈ ([] : List Addr) from z) (by simp)
  refine ⟨⟨e0.mod, S.kind, rfl, rfl, Nat.le_refl _, fun y z c h1 h2 => ?_, fun y hy => ?_, fun y c _ h => ?_, fun _ => hd, Around.frames_deeper e0.frames, .inr ⟨rfl, rfl⟩, fun b z => absurd z (noA b), e0.bs, e0.bsz, fun b _ _ => noA b, fun b z => absurd z (noA b), e0.funs, e0.frf⟩,
    rfl, e0.bare, Un.kept hk, ⟨_, x.toInCall.ns, fun i y v h1 h2 h3 => ?_⟩, fun y c h => ⟨_, x.cell y c h⟩, e0.hok.fresh (Nat.le_refl _), fun y c h => ?_, fun p hp => absurd (show p ∈ ([] : List (Addr × Obj)) from hp) (by simp), e0.hok.kept hk, ?_⟩
  · exact name_of_addr x.apart (PySem.mem_of_lookup h1) (PySem.mem_of_lookup h2)
  · have hy : scope.names.lookup y = some .cell ∨ scope.names.lookup y = some .free := hy
    rcases hy with hy | hy
    · exact cell_has hy
    · exact absurd rfl (S.nofree _ (PySem.mem_of_lookup hy))
  · exact Nat.le_of_lt (x.above y c (PySem.mem_of_lookup h))
  · have hi : i < vs.length := by
      unfold start at h2
      by_cases hi : i < vs.length
      · exact hi
      · rw [List.getElem?_append_right (by simpa using hi)] at h2
        rw [List.getElem?_replicate] at h2
        split at h2 <;> cases h2
    have ha : vs[i]? = some v := by
      unfold start at h2
      rw [List.getElem?_append_left (by simpa using hi), List.getElem?_map] at h2
      cases e : vs[i]? with
      | none => rw [e] at h2; cases h2
      | some a => rw [e] at h2; cases h2; rfl
    obtain ⟨u, hu, rv⟩ := r.get ha
    have hp : ps[i]? = some y := by
      rw [← S.pre, List.getElem?_take_of_lt (by omega)]; exact h1
    have ndP : ps.Nodup := by rw [← S.pre]; exact S.nd.sublist (List.take_sublist _ _)
    refine ⟨u, rv, ?_⟩
    rcases S.par y (List.mem_of_getElem? hp) with k | k
    · exact .inl ⟨k, bindL_get ndP hp hu k⟩
    · obtain ⟨c, e⟩ := cell_has (n := s.heap.objs.size + 1) k
      refine .inr ⟨.inl k, c, e, ?_⟩
      have q := x.cell y c e
      rw [bindC_get ndP hp hu (by show scope.names.lookup y ≠ _; rw [k]; decide)] at q
      exact q
  · exact e0.hok.fresh (Nat.le_of_lt (x.above y c (PySem.mem_of_lookup h)))
  · unfold start
    show _ = N.length
    rw [List.length_append, List.length_map, List.length_replicate]
    omega

/-- THE RULE: a def (or a method) of the text, by its body. The body's reading t is chosen for each entry; it is run at the parameters' values -/
theorem fn_of {CX : CXT} {P : Program} {w : World} {K : PySem.W.Frag} {mg : Str → Option Value} {base : Heap} {k : Nat} {f : Addr} {name qual : Str} {params : Arguments} {body : List Stmt} {scope : Scope} {dV kV doc pm cdv ct oc : Value} {an od : Option Addr}
    {osl : Array (Option Value)} {N ps : List Str} {sp : Sp} (lk : K.lookup f = some ⟨oc, od, .func (PySem.W.fnOf name qual params body scope dV kV doc pm an cdv ct), osl⟩) (hcd : PySem.W.codeIn K cdv qual = true) (S : FnScope N ps scope)
    (len : ∀ vs H Q E, sp vs H Q E → vs.length = ps.length)
    (hbody : ∀ (A : Around) (outer : List Env) (s : Shared) (H : Hp) (vs : List V) (Q : VK) (E : XK), Room k (A.deeper (envOfC qual scope s.heap.objs.size f cdv)) → sp vs H Q E →
      ∃ t, PSs (cxOf CX P w K mg base N qual scope f cdv A outer s H E) body t ∧ t { nx := fun _ H' => Q .non H', rt := Q } (start N vs) H) :
    FnOk P w K mg base CX (k + 1) f (PySem.W.fnOf name qual params body scope dV kV doc pm an cdv ct) ps sp := by
  refine ⟨len, fun A outer s H args us vs Q E hr e0 hb r hsp => ?_⟩
  have hl := len _ _ _ _ hsp
  have KX : K.In s.heap := e0.mod.kin.keeps fun b o e => (e0.bs b o e).1
  have lim : s.heap.NoLimit := e0.mod.nolimit.keeps fun b o e => (e0.bs b o e).1
  have hkind : ∀ y ∈ ps.zip us, scope.names.lookup y.1 = some .local ∨ (scope.names.lookup y.1 = some .cell ∧ ((cellsFrom (s.heap.objs.size + 1) scope.names []).lookup y.1).isSome = true) := fun ⟨n, v⟩ hy => by
    rcases S.par n (List.of_mem_zip hy).1 with q | q
    · exact .inl q
    · exact .inr ⟨q, PySem.W.cellsFrom_some _ _ _ (.inl q)⟩
  refine codeAny_call_function hr.depth (KX _ _ lk) rfl S.co S.gen rfl (PySem.W.codeRec_of KX hcd) (hb _ _ _ _ ?_)
  refine wpAny_newFunctionEnv_cells S.kind hkind fun env he s1 x => ?_
  subst he
  refine ⟨lim.keeps x.toInCall.keep, codeAny_func ?_⟩
  obtain ⟨t, ht, hq⟩ := hbody A outer s H vs Q E (hr.deeper _) hsp
  have I : Inv (cxOf CX P w K mg base N qual scope f cdv A outer s H E) [] (start N vs) H s1 := inv_start S hr.hd e0 hl r x
  refine wpAny_mono (ht [] s1 (start N vs) H _ I hq) (fun fl s' hs => ?_) fun e s' hs => hs
  have fin : ∀ {σ' : St} {H' : Hp} {v : V} {u : Value}, Inv (cxOf CX P w K mg base N qual scope f cdv A outer s H E) [] σ' H' s' → RelV v u → Q v H' → CE outer P w H s Q u s' :=
    fun {σ' H' v u} J rv q => ⟨v, H', J.os, J.bare, J.base, J.hok, rv, q⟩
  cases fl with
  | ret u =>
    obtain ⟨v, σ', H', J, rv, q⟩ := hs
    exact fin J rv q
  | next =>
    obtain ⟨σ', H', J, q⟩ := hs
    exact fin (v := V.non) (u := Value.none) J rfl q
  | brk =>
    obtain ⟨_, _, _, q⟩ := hs
    exact False.elim q
  | cont =>
    obtain ⟨_, _, _, q⟩ := hs
    exact False.elim q
end L2

namespace L2
open PySem PySem.Spec PyProof.Rows
section
variable {X : Cx} {x : Str} {p pos : Pos} {e : Expr} {es : List Expr} {t : TA} {id T : String} {r : List V → Hp → VK → Prop}

def tCB (r : List V → Hp → VK → Prop) (t : TA) : TE := fun σ H Q => t σ H fun vs H1 => r vs H1 Q
/-- f(e, ..), f a built-in function -/
theorem pe_callB (hc : CallR X (.builtin id) r) (hg : Gl X x) (hm : X.mg x = none) (hv : bootBuiltins x = some (.builtin id)) (ha : PA X (e :: es) t) (hn : x ≠ "__name__" := by decide) (hdb : (x == ("__debug__" : Str)) = false := by decide)
    (he : starEach (e :: es) X.env = (false, eval e X.env) :: starEach es X.env := by rfl) (hpl : (backTo pos (starEach es X.env)).any (·.1) = false := by rfl) : PE X (.Call (.Name x p) (e :: es) [] pos) (tCB r t) := by
  intro pins s σ H Q I h
  refine wpAny_Call_Name_kw (ld_blt I hg hm hv ?_ hn hdb)
  exact PyProof.Rows.callWith_builtin1 (thn (ha pos pins s σ H _ I h) fun us s1 ⟨vs, H1, I1, r1, q1⟩ => hc pins s1 σ H1 vs us Q I1 r1 q1) he hpl
/-- T(e, ..), T a built-in type -/
theorem pe_callTy (hc : CallR X (.type T) r) (hg : Gl X x) (hm : X.mg x = none) (hv : bootBuiltins x = some (.type T)) (ha : PA X (e :: es) t) (hn : x ≠ "__name__" := by decide) (hdb : (x == ("__debug__" : Str)) = false := by decide)
    (he : starEach (e :: es) X.env = (false, eval e X.env) :: starEach es X.env := by rfl) (hpl : (backTo pos (starEach es X.env)).any (·.1) = false := by rfl) : PE X (.Call (.Name x p) (e :: es) [] pos) (tCB r t) := by
  intro pins s σ H Q I h
  refine wpAny_Call_Name_kw (ld_blt I hg hm hv ?_ hn hdb)
  exact PyProof.Rows.callWith_type1 (thn (ha pos pins s σ H _ I h) fun us s1 ⟨vs, H1, I1, r1, q1⟩ => hc pins s1 σ H1 vs us Q I1 r1 q1) he hpl
/-- T() -/
theorem pe_callTy0 (hc : CallR X (.type T) r) (hg : Gl X x) (hm : X.mg x = none) (hv : bootBuiltins x = some (.type T)) (hn : x ≠ "__name__" := by decide) (hdb : (x == ("__debug__" : Str)) = false := by decide) :
    PE X (.Call (.Name x p) [] [] pos) (tCB r tNil) := by
  intro pins s σ H Q I h
  refine wpAny_Call_Name_kw (ld_blt I hg hm hv ?_ hn hdb)
  exact PyProof.Rows.callWith_type0 (hc pins s σ H [] [] Q I .nil h)
end
end L2

namespace HT
open PySem PyProof.Rows

/-- t < u of tuples of ints -/
def lexLt : List Int → List Int → Bool
  | [], [] => false
  | [], _ :: _ => true
  | _ :: _, [] => false
  | x :: xs, y :: ys => if x = y then lexLt xs ys else decide (x < y)
theorem lexLt_cons (x y : Int) (xs ys : List Int) : lexLt (x :: xs) (y :: ys) = if x = y then lexLt xs ys else decide (x < y) := rfl
theorem lexLt_nil_nil : lexLt [] [] = false := rfl
theorem lexLt_nil_cons (y : Int) (ys : List Int) : lexLt [] (y :: ys) = true := rfl
theorem lexLt_cons_nil (x : Int) (xs : List Int) : lexLt (x :: xs) [] = false := rfl

theorem eqAt_int (A : Around) (s : Shared) (a : Int) (t : Tok) (c : Int) (u : Tok) : ∃ e, SeqAt.EqAt A s (.int a t) (.int c u) e ∧ (e = true ↔ a = c) :=
  ⟨(a == c), SeqAt.EqAt.int_int a t c u, by simp⟩
theorem rcLt_int (A : Around) (s : Shared) (a : Int) (t : Tok) (c : Int) (u : Tok) (prog : Program) (w : World) (E : Value → Shared → Prop) (Q : Value → Shared → Prop) (h : Q (.bool (decide (a < c))) s) :
    wpAny (model prog w) A (richCompare .Lt (.int a t) (.int c u)) Q E s :=
  (PyProof.Rows.lt_int h : wpAny (model prog w) A (compareOp .Lt (.int a t) (.int c u)) Q E s)

section
open PySem.SeqAt
open PySem.AutoSeq1 (wpAny_loadPart')
open PySem.MeetsSeq PySem.MeetsSeq2 PySem.MeetsSeq3

theorem tuple_lt_ints (l b : Addr) (items items2 : Array Value) (n n2 : Nat) (dd dd2 : Option Addr) (sl sl2 : Array (Option Value)) (ns ms : List Int) (hi : IntsAre items.toList ns) (hj : IntsAre items2.toList ms) :
    Meets (Builtin.«tuple.__lt__» ⟨[.ref l, .ref b], []⟩)
      (fun _ R s => s.heap.get? l = some { cls := .type "tuple", dict := dd, data := .seq items n, slots := sl } ∧ s.heap.get? b = some { cls := .type "tuple", dict := dd2, data := .seq items2 n2, slots := sl2 } ∧
        R (.ok (.ret (.bool (lexLt ns ms)))) s) :=
  .of_wp fun prog w A R s h => by
    obtain ⟨hp, g, d, tk, os⟩ := s; obtain ⟨hl, hb, h⟩ := h
    have f2 := AutoSeq1.sub_tuple_tuple
    have z1 : items.size = ns.length := by rw [← hi.length]; simp
    have z2 : items2.size = ms.length := by rw [← hj.length]; simp
    wp_walk using wpAny_loadPart' hl, wpAny_loadPart' hb, wpAny_forIn_list _ (fun rest b s' => b.1 = none ∧ s' = ⟨hp, g, d, tk, os⟩ ∧ ∃ (vs ws : List Value) (ns' ms' : List Int), rest = vs.zip ws ∧
      IntsAre vs ns' ∧ IntsAre ws ms' ∧ ns'.length + items2.size = ms'.length + items.size ∧ R (.ok (.ret (.bool (lexLt ns' ms')))) ⟨hp, g, d, tk, os⟩) _
    case turn =>
      rintro ⟨y, x⟩ rest b s' ⟨hb', rfl, vs, ws, ns', ms', hz, hvi, hwi, hlen, hR⟩
      cases hvi with
      | nil => rw [List.zip_nil_left] at hz; cases hz
      | cons a t hvi' =>
        cases hwi with
        | nil => rw [List.zip_nil_right] at hz; cases hz
        | cons c u hwi' =>
          rw [List.zip_cons_cons] at hz
          injection hz with hyx hrest
          injection hyx with hy hx
          subst hy hx
          rw [lexLt_cons] at hR
          simp only [List.length_cons] at hlen
          obtain ⟨e, he, hiff⟩ := eqAt_int A.in1 ⟨hp, g, d, tk, os⟩ a t c u
          refine wpAny_bind (he prog w _ _ ?_)
          cases e with
          | true =>
            rw [if_pos (hiff.mp rfl)] at hR
            wp_walk
            exact ⟨rfl, rfl, _, _, _, _, hrest, hvi', hwi', by omega, hR⟩
          | false =>
            rw [if_neg (fun q => absurd (hiff.mpr q) Bool.false_ne_true)] at hR
            have hri := rcLt_int A.in1 ⟨hp, g, d, tk, os⟩ a t c u prog w
            wp_walk using hri
            exact ⟨_, rfl, by simpa using hR⟩
    case fin =>
      rintro ⟨b1, b2⟩ s' ⟨hb', rfl, vs, ws, ns', ms', hz, hvi, hwi, hlen, hR⟩
      simp only at hb'
      subst hb'
      have hv : lexLt ns' ms' = decide (items.size < items2.size) := by
        cases hvi with
        | nil =>
          cases hwi with
          | nil =>
            simp only [List.length_nil] at hlen
            rw [lexLt_nil_nil]
            exact (decide_eq_false (by omega)).symm
          | cons c u hw =>
            simp only [List.length_nil, List.length_cons] at hlen
            rw [lexLt_nil_cons]
            exact (decide_eq_true (by omega)).symm
        | cons a t hv =>
          cases hwi with
          | nil =>
            simp only [List.length_nil, List.length_cons] at hlen
            rw [lexLt_cons_nil]
            exact (decide_eq_false (by omega)).symm
          | cons c u hw =>
            rw [List.zip_cons_cons] at hz
            cases hz
      rw [hv] at hR
      wp_walk
      exact ⟨_, rfl, by simpa [Builtin.Tuple.tupleCompareSizes] using hR⟩
    case h =>
      exact ⟨rfl, rfl, items.toList, items2.toList, ns, ms, rfl, hi, hj, by omega, h⟩
end

section
variable {prog : Program} {w : World} {A : Around} {E : Value → Shared → Prop} {s : Shared}

theorem lt_tupInts {l b : Addr} {items items2 : Array Value} {ns ms : List Int} {Q : Value → Shared → Prop} (hl : IsTup s.heap l items) (hb : IsTup s.heap b items2) (hi : IntsAre items.toList ns) (hj : IntsAre items2.toList ms)
    (hu : A.units < cLine) (h : Q (.bool (lexLt ns ms)) s) : wpAny (model prog w) A (compareOp .Lt (.ref l) (.ref b)) Q E s := by
  obtain ⟨⟨cls, dd, data, sl⟩, ho, hc, n, hd⟩ := id hl
  obtain ⟨⟨cls2, dd2, data2, sl2⟩, ho2, hc2, n2, hd2⟩ := id hb
  simp only at hc hd hc2 hd2
  subst hc hd hc2 hd2
  exact richCompare_meets_room (op := .Lt) ⟨_, ho, rfl⟩ ⟨_, ho2, rfl⟩ PySem.F.slot_tuple_lt PySem.F.entry_tuple_lt (PySem.F.args_tuple_lt_2 _ _) (tuple_lt_ints l b items items2 n n2 dd dd2 sl sl2 ns ms hi hj)
    ⟨ho, ho2, show Value.bool (lexLt ns ms) ≠ Value.notImplemented ∧ Q (.bool (lexLt ns ms)) s from ⟨(fun x => nomatch x), h⟩⟩ hu

/-- t + u, t not empty -/
theorem cat_tup {t b : Addr} {vs ws : List Value} {Q : Value → Shared → Prop} (ht : IsTup s.heap t vs.toArray) (hb : IsTup s.heap b ws.toArray) (hv : vs ≠ [])
    (h1 : ws = [] → Q (.ref t) s) (h2 : ws ≠ [] → Q (.ref s.heap.objs.size) { s with heap := s.heap.push { cls := .type "tuple", data := .seq (vs ++ ws).toArray } })
    (hsz : vs.length + ws.length ≤ sizeLine) : wpAny (model prog w) A (binaryOp .Add (.ref t) (.ref b)) Q E s := by
  obtain ⟨⟨cls, dd, data, sl⟩, ho, hc, n, hd⟩ := id ht
  obtain ⟨⟨cls2, dd2, data2, sl2⟩, ho2, hc2, n2, hd2⟩ := id hb
  simp only at hc hd hc2 hd2
  subst hc hd hc2 hd2
  have e : vs.toArray ++ ws.toArray = (vs ++ ws).toArray := by simp
  by_cases hw : ws = []
  · exact concat_meets ⟨_, ho, rfl⟩ ⟨_, ho2, rfl⟩ noFill_tuple_add seq_tuple_add PySem.F.slot_tuple_add PySem.F.entry_tuple_add (PySem.F.args_tuple_add_2 _ _)
      (tuple_addW1 t b vs.toArray ws.toArray n n2 dd dd2 sl sl2 (by simpa using hv) (by simp [hw])) ⟨ho, ho2, h1 hw⟩
  · refine concat_meets ⟨_, ho, rfl⟩ ⟨_, ho2, rfl⟩ noFill_tuple_add seq_tuple_add PySem.F.slot_tuple_add PySem.F.entry_tuple_add (PySem.F.args_tuple_add_2 _ _)
      (tuple_addW2 t b vs.toArray ws.toArray n n2 dd dd2 sl sl2 (by simpa using hv) (by simpa using hw) (by rw [List.size_toArray, List.size_toArray]; exact hsz)) ⟨ho, ho2, ?_⟩
    rw [e]
    exact h2 hw

/-! ### t[a:b], not the whole -/
/-- a slice's bound as a place among n (d where it is left out) -/
def sIx (n d : Nat) : Option Int → Nat
  | none => d
  | some v => if v < 0 then (v + (n : Int)).toNat else min v.toNat n
theorem sIx_none (n d : Nat) : sIx n d none = d := rfl
theorem sIx_nat (n d k : Nat) : sIx n d (some (k : Int)) = min k n := by
  show (if (k : Int) < 0 then ((k : Int) + (n : Int)).toNat else min (k : Int).toNat n) = min k n
  rw [if_neg (by omega), Int.toNat_natCast]
theorem sIx_le (n d : Nat) (hd : d ≤ n) (o : Option Int) : sIx n d o ≤ n := by
  cases o with
  | none => exact hd
  | some v =>
    show (if v < 0 then (v + (n : Int)).toNat else min v.toNat n) ≤ n
    by_cases hv : v < 0
    · rw [if_pos hv]; omega
    · rw [if_neg hv]; exact Nat.min_le_right _ _
theorem clip_eq (v : Int) (n d : Nat) : (if v < 0 then max (v + (n : Int)) 0 else min v (n : Int)) = ((sIx n d (some v) : Nat) : Int) := by
  show (if v < 0 then max (v + (n : Int)) 0 else min v (n : Int)) = (((if v < 0 then (v + (n : Int)).toNat else min v.toNat n) : Nat) : Int)
  by_cases hv : v < 0
  · simp only [if_pos hv]; omega
  · simp only [if_neg hv]; omega
theorem adjust_gen (lo hi : Option Int) (n : Nat) : Builtin.Slice.sliceAdjust lo hi 1 (n : Int) = (((sIx n 0 lo : Nat) : Int), ((sIx n n hi : Nat) : Int)) := by
  have h1 : ¬ ((1 : Int) < 0) := by omega
  unfold Builtin.Slice.sliceAdjust
  simp only [h1, if_false]
  refine Prod.ext ?_ ?_
  · cases lo with
    | none => rfl
    | some v => exact clip_eq v n 0
  · cases hi with
    | none => rfl
    | some v => exact clip_eq v n n
theorem places_gen (i j : Nat) : Builtin.Slice.slicePlaces (i : Int) (j : Int) 1 = j - i := by
  unfold Builtin.Slice.slicePlaces
  have h1 : (1 : Int) > 0 := by omega
  simp only [h1, if_true, Int.ediv_one]
  split <;> omega
theorem slicePart_ {v : Value} {o : Option Int} {Q : Option Int → Shared → Prop} (p : IsPart v o) (h : Q o s) : wpAny (model prog w) A (Builtin.Slice.slicePartIndex v) Q E s := by
  cases p with
  | none => exact slicePart_none h
  | int i t => exact slicePart_int h
theorem sliceApplied_gen {sl : Addr} {vl vu : Value} {lo hi : Option Int} {n : Nat} {Q : Int × Int × Nat → Shared → Prop} (hs : s.heap.IsSliceOf sl vl vu .none) (pl : IsPart vl lo) (pu : IsPart vu hi)
    (h : Q (((sIx n 0 lo : Nat) : Int), 1, sIx n n hi - sIx n 0 lo) s) : wpAny (model prog w) A (Builtin.Slice.sliceApplied (.ref sl) (pure (n : Int))) Q E s := by
  obtain ⟨os, hos, hcs, hds⟩ := id hs
  unfold Builtin.Slice.sliceApplied Builtin.Slice.sliceFields
  refine wpAny_bind (wpAny_bind (wpAny_field hos hds (x := vl) rfl (wpAny_bind (wpAny_field hos hds (x := vu) rfl (wpAny_bind (wpAny_field hos hds (x := .none) rfl (wpAny_pure ?_)))))))
  refine wpAny_bind (slicePart_none ?_)
  show wpAny _ _ (if ((1 : Int) == 0) = true then _ else _) _ _ s
  rw [if_neg (by decide)]
  refine wpAny_bind (slicePart_ pl (wpAny_bind (slicePart_ pu (wpAny_bind (wpAny_pure ?_)))))
  show wpAny _ _ (match Builtin.Slice.sliceAdjust lo hi 1 (n : Int) with | (lo, hi) => pure (lo, (1 : Int), Builtin.Slice.slicePlaces lo hi 1)) _ _ s
  rw [adjust_gen lo hi n]
  show wpAny _ _ (pure (((sIx n 0 lo : Nat) : Int), (1 : Int), Builtin.Slice.slicePlaces ((sIx n 0 lo : Nat) : Int) ((sIx n n hi : Nat) : Int) 1)) _ _ s
  rw [places_gen]
  exact wpAny_pure h
theorem pick_gen (xs : Array Value) (i k : Nat) : ((List.range k).filterMap fun (m : Nat) => xs[((i : Int) + (m : Int) * 1).toNat]?).toArray = ((xs.toList.drop i).take k).toArray := by
  have e : (fun (m : Nat) => xs[((i : Int) + (m : Int) * 1).toNat]?) = fun m => xs[i + m]? := by
    funext m
    have : ((i : Int) + (m : Int) * 1).toNat = i + m := by omega
    rw [this]
  rw [e]
  have := pick_run xs i k
  rw [List.filterMap_map] at this
  have e2 : ((fun x => xs[x]?) ∘ fun x => i + x) = fun m => xs[i + m]? := rfl
  rw [e2] at this
  rw [this]

theorem getItem_tuple_cut {t sl : Addr} {items : Array Value} {vl vu : Value} {lo hi : Option Int} {Q : Value → Shared → Prop} (ht : IsTup s.heap t items) (hs : s.heap.IsSliceOf sl vl vu .none) (pl : IsPart vl lo) (pu : IsPart vu hi)
    (hw : ¬ (sIx items.size 0 lo = 0 ∧ sIx items.size items.size hi = items.size))
    (h : Q (.ref s.heap.objs.size) { s with heap := s.heap.push { cls := .type "tuple", data := .seq ((items.toList.drop (sIx items.size 0 lo)).take (sIx items.size items.size hi - sIx items.size 0 lo)).toArray } })
    (hsz : items.size ≤ sizeLine) : wpAny (model prog w) A (getItem (.ref t) (.ref sl)) Q E s := by
  have htake : sizeOk (.seq ((items.toList.drop (sIx items.size 0 lo)).take (sIx items.size items.size hi - sIx items.size 0 lo)).toArray) := by
    show ((items.toList.drop (sIx items.size 0 lo)).take (sIx items.size items.size hi - sIx items.size 0 lo)).toArray.size ≤ sizeLine
    rw [List.size_toArray, List.length_take, List.length_drop, Array.length_toList]
    omega
  have hj : sIx items.size items.size hi ≤ items.size := sIx_le _ _ (Nat.le_refl _) hi
  obtain ⟨os, hos, hcs, hds⟩ := id hs
  have hTs : s.TypeIs (.ref sl) "slice" := ⟨os, hos, hcs⟩
  unfold getItem
  try with_reducible refine wpAny_holding ?_
  first | refine wpAny_bind (wpAny_pure ?_) | skip
  refine wpAny_bind (wpAny_sequenceKey ht.typeIs (by decide) ?_)
  refine wpAny_bind (wpAny_callSpecial?_slot (name := Str.ofString "__getitem__") ht.typeIs PyProof.Rows.slot_tuple_getitem
    (wpAny_call_entry PyProof.Rows.slot_tuple_getitem ht.typeIs entry_tuple_getitem ?_ (args_tuple_getitem _ _)))
  show wpAny _ _ (Builtin.Tuple.tupleItemsOf (.ref t) >>= _) _ _ s
  refine wpAny_bind (tupleItemsOf_ ht ?_)
  refine wpAny_bind (wpAny_typeOf hTs ?_)
  rw [if_pos (by decide)]
  refine wpAny_bind (sliceApplied_gen hs pl pu ?_)
  have hno : ¬ ((((sIx items.size 0 lo : Nat) : Int) == 0 && (1 : Int) == 1 && (sIx items.size items.size hi - sIx items.size 0 lo) == items.size) = true) := by
    intro q
    rw [Bool.and_eq_true, Bool.and_eq_true] at q
    have q1 : ((sIx items.size 0 lo : Nat) : Int) = 0 := eq_of_beq q.1.1
    have q2 : sIx items.size items.size hi - sIx items.size 0 lo = items.size := eq_of_beq q.2
    exact hw ⟨by omega, by omega⟩
  show wpAny _ _ (if (((sIx items.size 0 lo : Nat) : Int) == 0 && (1 : Int) == 1 && (sIx items.size items.size hi - sIx items.size 0 lo) == items.size) = true then _ else _) _ _ s
  rw [if_neg hno, pick_gen]
  first
    | exact wpAny_bind (m := Builtin.Tuple.tupleExact _) (wpAny_newObj_type (wpAny_pure ⟨_, rfl, wpAny_pure h⟩) htake)
    | exact wpAny_bind (m := Builtin.Tuple.tupleExact _) (wpAny_newObj_type (wpAny_bind (wpAny_pure (wpAny_pure ⟨_, rfl, wpAny_pure h⟩))) htake)
    | exact wpAny_bind (wpAny_bind (m := Builtin.Tuple.tupleExact _) (wpAny_newObj_type (wpAny_pure (wpAny_pure ⟨_, rfl, wpAny_pure h⟩)) htake))
    | exact wpAny_bind (wpAny_bind (m := Builtin.Tuple.tupleExact _) (wpAny_newObj_type (wpAny_pure ⟨_, rfl, wpAny_pure h⟩) htake))
end
end HT

namespace L2
open PySem PySem.Spec PyProof.Rows

/-! ### the parts of a slice -/
abbrev TO := St → Hp → (Option Int → Hp → Prop) → Prop
/-- a slice's part (left out, or an int) -/
def PO (X : Cx) (e : Option Expr) (t : TO) : Prop :=
  ∀ (pins : List (Addr × Obj)) (s : Shared) (σ : St) (H : Hp) (Q : Option Int → Hp → Prop), Inv X pins σ H s → t σ H Q →
    wpAny (model X.prog X.w) X.A (evalPart e X.env) (fun u s' => ∃ o H', Inv X pins σ H' s' ∧ IsPart u o ∧ Q o H') X.xe s
def tNoPart : TO := fun _ H Q => Q none H
def tPart (t : TE) : TO := fun σ H Q => t σ H fun x H1 => ∃ i, x = .int i ∧ Q (some i) H1

theorem intsAre_of {ns : List Int} : ∀ {us : List Value}, Vals (ns.map V.int) us → IntsAre us ns := by
  induction ns with
  | nil => intro us r; rw [List.map_nil] at r; cases r; exact .nil
  | cons n ns ih =>
    intro us r
    rw [List.map_cons] at r
    cases r with
    | cons r1 r2 =>
      obtain ⟨t, e⟩ := r1
      subst e
      exact .cons n t (ih r2)

section
variable {X : Cx} {e : Expr} {te : TE} {lo hi : Option Expr} {tl th : TO} {pos p2 : Pos}

theorem po_none : PO X none tNoPart := by
  intro pins s σ H Q I h
  rw [evalPart_none]
  exact wpAny_pure ⟨none, H, I, .none, h⟩
theorem po_some (h : PE X e te) : PO X (some e) (tPart te) := by
  intro pins s σ H Q I hw
  rw [evalPart_some]
  refine thn (h pins s σ H _ I hw) fun u s1 ⟨x, H1, I1, r1, q1⟩ => ?_
  obtain ⟨i, rfl, q⟩ := q1
  obtain ⟨t, rfl⟩ := r1
  exact ⟨some i, H1, I1, .int i t, q⟩

/-- what a slice of a value is, by values: the slice object stands at sl -/
def SlR (X : Cx) (r : V → Option Int → Option Int → Hp → VK → Prop) : Prop :=
  ∀ (pins : List (Addr × Obj)) (s : Shared) (σ : St) (H : Hp) (x : V) (v vl vu : Value) (lo hi : Option Int) (sl : Addr) (Q : VK), Inv X pins σ H s → RelV x v → s.heap.IsSliceOf sl vl vu .none → IsPart vl lo → IsPart vu hi → r x lo hi H Q →
    ∃ T id, typeLookup (.type T) "__getitem__" = pure (some (.builtin id)) ∧ s.TypeIs v T ∧ wpAny (model X.prog X.w) X.A (getItem v (.ref sl)) (EP X pins σ Q) X.xe s
theorem SlR.or {r r' : V → Option Int → Option Int → Hp → VK → Prop} (h : SlR X r) (h' : SlR X r') : SlR X (fun x lo hi H Q => r x lo hi H Q ∨ r' x lo hi H Q) := by
  intro pins s σ H x v vl vu lo hi sl Q I rx hs pl pu q
  rcases q with q | q
  · exact h pins s σ H x v vl vu lo hi sl Q I rx hs pl pu q
  · exact h' pins s σ H x v vl vu lo hi sl Q I rx hs pl pu q
def tSl (r : V → Option Int → Option Int → Hp → VK → Prop) (te : TE) (tl th : TO) : TE := fun σ H Q => te σ H fun x H1 => tl σ H1 fun l H2 => th σ H2 fun u H3 => r x l u H3 Q
/-- a[lo:hi], any a -/
theorem pe_slice {r : V → Option Int → Option Int → Hp → VK → Prop} (hr : SlR X r) (he : PE X e te) (hl : PO X lo tl) (hu : PO X hi th) : PE X (.Subscript e (.Slice lo hi none p2) pos) (tSl r te tl th) := by
  intro pins s σ H Q I h
  refine Subscript_ (thn (he pins s σ H _ I h) fun v s1 ⟨x, H1, I1, r1, q1⟩ => ?_)
  refine wpAny_Slice (thn (hl pins s1 σ H1 _ I1 q1) fun vl s2 ⟨l, H2, I2, pl, q2⟩ => thn (hu pins s2 σ H2 _ I2 q2) fun vu s3 ⟨u, H3, I3, pu, q3⟩ => ?_)
  rw [evalPart_none]
  refine wpAny_pure ?_
  have I4 : Inv X pins σ H3 { s3 with heap := s3.heap.push { cls := .type "slice", data := .fields #[vl, vu, .none] } } := I3.kept (t' := s3.toks) fun b ob q => Heap.get?_push_of_some _ q
  obtain ⟨T, id, hT, ht, hg⟩ := hr pins { s3 with heap := s3.heap.push { cls := .type "slice", data := .fields #[vl, vu, .none] } } σ H3 x v vl vu l u s3.heap.objs.size Q I4 r1 (Heap.IsSliceOf.new ..) pl pu q3
  show wpAny (model X.prog X.w) X.A (subscriptTail e (.Slice lo hi none p2) v (.ref s3.heap.objs.size)) (EP X pins σ Q) X.xe { s3 with heap := s3.heap.push { cls := .type "slice", data := .fields #[vl, vu, .none] } }
  exact tail_any (ops := [.ref s3.heap.objs.size, v]) ht hT hg (by with_unfolding_all rfl)

/-- the items of xs[lo:hi] -/
def cutV (xs : List V) (lo hi : Option Int) : List V := (xs.drop (HT.sIx xs.length 0 lo)).take (HT.sIx xs.length xs.length hi - HT.sIx xs.length 0 lo)
theorem cutV_length (xs : List V) (lo hi : Option Int) : (cutV xs lo hi).length ≤ xs.length := by
  unfold cutV
  rw [List.length_take, List.length_drop]
  omega
/-- t[lo:hi], not the whole of it (the whole would be t itself) -/
def rSlT (K : PySem.W.Frag) : V → Option Int → Option Int → Hp → VK → Prop := fun x lo hi H Q => ∃ a xs, x = .ref a ∧ SqT K H a xs ∧
  ¬ (HT.sIx xs.length 0 lo = 0 ∧ HT.sIx xs.length xs.length hi = xs.length) ∧ ∀ p, H p = none → Q (.ref p) (upd H p (.tup (cutV xs lo hi)))
theorem sl_tup : SlR X (rSlT X.K) := by
  intro pins s σ H x v vl vu lo hi sl Q I rx hs pl pu h
  obtain ⟨a, xs, rfl, hx, hw, q⟩ := h
  cases rx
  obtain ⟨its, r, ht, hz⟩ := I.tuple hx
  have hlen : its.toArray.size = xs.length := by rw [List.size_toArray]; exact r.length.symm
  refine ⟨"tuple", _, PyProof.Rows.slot_tuple_getitem.lookup, ht.typeIs, ?_⟩
  refine HT.getItem_tuple_cut ht hs pl pu (by rw [hlen]; exact hw) ?_ (by rw [hlen]; exact hz)
  rw [hlen]
  refine ⟨.ref s.heap.objs.size, _, I.laid (t' := s.toks) (o := .tup (cutV xs lo hi)) (fun b ob q => Heap.get?_push_of_some _ q) (Nat.le_refl _) ?_, rfl, q _ (I.hok.fresh (Nat.le_refl _))⟩
  exact ⟨Nat.le_trans (cutV_length xs lo hi) hz, _, (r.drop (HT.sIx xs.length 0 lo)).take (HT.sIx xs.length xs.length hi - HT.sIx xs.length 0 lo), IsTup.new _ _⟩

/-! ### t < u, t + u -/
def rLtT (K : PySem.W.Frag) : R2 := fun x y H Q => ∃ a b ns ms, x = .ref a ∧ y = .ref b ∧ SqT K H a (ns.map V.int) ∧ SqT K H b (ms.map V.int) ∧ Q (.bl (HT.lexLt ns ms)) H
theorem op_ltT (hu : X.A.units < cLine) : OpR X (compareOp .Lt) (rLtT X.K) := by
  intro pins s σ H x y v u Q I rx ry h
  obtain ⟨a, b, ns, ms, rfl, rfl, ha, hb, q⟩ := h
  cases rx
  cases ry
  obtain ⟨its, r1, p1, _⟩ := I.tuple ha
  obtain ⟨its2, r2, p2, _⟩ := I.tuple hb
  have i1 : IntsAre its.toArray.toList ns := intsAre_of r1
  have i2 : IntsAre its2.toArray.toList ms := intsAre_of r2
  exact HT.lt_tupInts p1 p2 i1 i2 hu ⟨.bl (HT.lexLt ns ms), H, I, rfl, q⟩
/-- t + u, t not empty: u empty gives t itself -/
def rCatT (K : PySem.W.Frag) : R2 := fun x y H Q => ∃ a b xs ys, x = .ref a ∧ y = .ref b ∧ SqT K H a xs ∧ SqT K H b ys ∧ xs ≠ [] ∧ xs.length + ys.length ≤ sizeLine ∧
  (ys = [] → Q (.ref a) H) ∧ (ys ≠ [] → ∀ p, H p = none → Q (.ref p) (upd H p (.tup (xs ++ ys))))
theorem Vals.nil_iff {xs : List V} {us : List Value} (r : Vals xs us) : us = [] ↔ xs = [] := by
  cases r with
  | nil => simp
  | cons _ _ => simp
theorem op_catT : OpR X (binaryOp .Add) (rCatT X.K) := by
  intro pins s σ H x y v u Q I rx ry h
  obtain ⟨a, b, xs, ys, rfl, rfl, ha, hb, hx, hz, q1, q2⟩ := h
  cases rx
  cases ry
  obtain ⟨its, r1, p1, _⟩ := I.tuple ha
  obtain ⟨its2, r2, p2, _⟩ := I.tuple hb
  refine HT.cat_tup p1 p2 (fun z => hx (r1.nil_iff.mp z)) (fun z => ⟨.ref a, H, I, rfl, q1 (r2.nil_iff.mp z)⟩) (fun z => ?_) (by rw [← r1.length, ← r2.length]; exact hz)
  refine ⟨.ref s.heap.objs.size, _, I.laid (t' := s.toks) (o := .tup (xs ++ ys)) (fun b ob q => Heap.get?_push_of_some _ q) (Nat.le_refl _) ?_, rfl, q2 (fun w => z (r2.nil_iff.mpr w)) _ (I.hok.fresh (Nat.le_refl _))⟩
  exact ⟨by rw [List.length_append]; exact hz, _, r1.append r2, IsTup.new _ _⟩
/-- tuple(t) -/
theorem call_tupleT : CallR X (.type "tuple") (fun xs H Q => ∃ a ys, xs = [.ref a] ∧ SqT X.K H a ys ∧ Q (.ref a) H) := by
  intro pins s σ H xs us Q I r h
  obtain ⟨a, ys, rfl, ha, q⟩ := h
  obtain ⟨u, rfl, ru⟩ := vals1 r
  cases ru
  obtain ⟨its, _, p1, _⟩ := I.tuple ha
  exact call_tuple_same (items := its.toArray) p1 ⟨.ref a, H, I, rfl, q⟩
end
end L2

namespace L2
open PySem PySem.Spec PyProof.Rows

/-! ### places -/
/-- the place that an index of any sign means -/
def ixN (n : Nat) (i : Int) : Option Nat := if 0 ≤ i then (if i < n then some i.toNat else none) else if -(n : Int) ≤ i then some (i + n).toNat else none
def atI {α : Type} (xs : List α) (i : Int) : Option α := (ixN xs.length i).bind fun j => xs[j]?
theorem ixN_seq {n : Nat} {i : Int} {j : Nat} (h : ixN n i = some j) : seqIndex? i n = some j ∧ j < n ∧ -(n : Int) ≤ i ∧ i < n := by
  unfold ixN at h
  by_cases h0 : 0 ≤ i
  · rw [if_pos h0] at h
    by_cases h1 : i < n
    · rw [if_pos h1] at h
      have e : i.toNat = j := Option.some.inj h
      exact ⟨by rw [seqIndex_of h0 h1, e], by omega, by omega, h1⟩
    · rw [if_neg h1] at h; cases h
  · rw [if_neg h0] at h
    by_cases h1 : -(n : Int) ≤ i
    · rw [if_pos h1] at h
      have e : (i + n).toNat = j := Option.some.inj h
      exact ⟨by rw [seqIndex_neg (by omega) h1, e], by omega, h1, by omega⟩
    · rw [if_neg h1] at h; cases h
theorem atI_get {α : Type} {xs : List α} {i : Int} {v : α} (h : atI xs i = some v) : ∃ j, seqIndex? i xs.length = some j ∧ xs[j]? = some v ∧ j < xs.length ∧ -(xs.length : Int) ≤ i ∧ i < xs.length := by
  unfold atI at h
  cases e : ixN xs.length i with
  | none => rw [e] at h; cases h
  | some j =>
    rw [e] at h
    obtain ⟨h1, h2, h3, h4⟩ := ixN_seq e
    exact ⟨j, h1, h, h2, h3, h4⟩
theorem atI_nat {α : Type} {xs : List α} {j : Nat} {v : α} (h : xs[j]? = some v) : atI xs (j : Int) = some v := by
  have hj : j < xs.length := (List.getElem?_eq_some_iff.mp h).1
  have e : ixN xs.length (j : Int) = some j := by
    unfold ixN
    rw [if_pos (by omega), if_pos (by omega)]; simp
  unfold atI; rw [e]; exact h
theorem atI_last {α : Type} (xs : List α) (v : α) : atI (xs ++ [v]) (-1) = some v := by
  have hl : (xs ++ [v]).length = xs.length + 1 := by simp
  have e : ixN (xs ++ [v]).length (-1) = some xs.length := by
    unfold ixN
    rw [hl, if_neg (by decide), if_pos (by omega)]
    congr 1
    omega
  unfold atI
  rw [e]
  show (xs ++ [v])[xs.length]? = some v
  simp

/-! ### what may be subscripted -/
/-- what stands as an index of a plain subscript -/
def PlainIx (b : Expr) : Prop := ∀ o i, subscripted b false o i = operate [o, i] (getItem o i)
/-- a subscript by values -/
def IxR (X : Cx) (r : R2) : Prop :=
  ∀ (value slice : Expr) (pins : List (Addr × Obj)) (s : Shared) (σ : St) (H : Hp) (x y : V) (v u : Value) (Q : VK), Inv X pins σ H s → RelV x v → RelV y u → r x y H Q →
    subscripted slice false v u = operate [v, u] (getItem v u) → wpAny (model X.prog X.w) X.A (subscriptTail value slice v u) (EP X pins σ Q) X.xe s
/-- a call of a builtin's method by values: the receiver, the arguments -/
def MtR (X : Cx) (id : String) (r : V → List V → Hp → VK → Prop) : Prop :=
  ∀ (pins : List (Addr × Obj)) (s : Shared) (σ : St) (H : Hp) (x : V) (xs : List V) (v : Value) (us : List Value) (Q : VK), Inv X pins σ H s → RelV x v → Vals xs us → r x xs H Q →
    wpAny (model X.prog X.w) X.A (call (.builtin id) (v :: us)) (EP X pins σ Q) X.xe s
section
variable {X : Cx} {a b : Expr} {ta tb : TE} {pos : Pos}
theorem IxR.or {r r' : R2} (h : IxR X r) (h' : IxR X r') : IxR X (fun x y H Q => r x y H Q ∨ r' x y H Q) := by
  intro value slice pins s σ H x y v u Q I rx ry q hs
  rcases q with q | q
  · exact h value slice pins s σ H x y v u Q I rx ry q hs
  · exact h' value slice pins s σ H x y v u Q I rx ry q hs
theorem MtR.or {id : String} {r r' : V → List V → Hp → VK → Prop} (h : MtR X id r) (h' : MtR X id r') : MtR X id (fun x xs H Q => r x xs H Q ∨ r' x xs H Q) := by
  intro pins s σ H x xs v us Q I rx rs q
  rcases q with q | q
  · exact h pins s σ H x xs v us Q I rx rs q
  · exact h' pins s σ H x xs v us Q I rx rs q
/-- a[b] -/
theorem pe_ix {r : R2} (hr : IxR X r) (ha : PE X a ta) (hb : PE X b tb) (hs : PlainIx b) : PE X (.Subscript a b pos) (tOp r ta tb) := by
  intro pins s σ H Q I h
  exact Subscript_ (binT ha hb I h fun v u s2 x y H2 I2 rx ry q => hr a b pins s2 σ H2 x y v u Q I2 rx ry q (hs _ _))

def rIxL (K : PySem.W.Frag) : R2 := fun x y H Q => ∃ p xs i v, x = .ref p ∧ y = .int i ∧ SqL K H p xs ∧ atI xs i = some v ∧ Q v H
def rIxT (K : PySem.W.Frag) : R2 := fun x y H Q => ∃ p xs i v, x = .ref p ∧ y = .int i ∧ SqT K H p xs ∧ atI xs i = some v ∧ Q v H
def rIxS : R2 := fun x y H Q => ∃ z i c, x = .str z ∧ y = .int i ∧ z.length ≤ sizeLine ∧ atI z.cps.toList i = some c ∧ Q (.str ⟨#[c]⟩) H
theorem ix_list : IxR X (rIxL X.K) := by
  intro value slice pins s σ H x y v u Q I rx ry h hs
  obtain ⟨p, xs, i, z, rfl, rfl, hq, he, q⟩ := h
  cases rx
  obtain ⟨t, rfl⟩ := ry
  obtain ⟨its, r, pl, hz⟩ := I.list hq
  obtain ⟨j, h1, h2, h3, h4, h5⟩ := atI_get he
  obtain ⟨w, ew, rw'⟩ := r.get h2
  have hl := r.length
  have hn := line63
  have fin : EP X pins σ Q w s := ⟨z, H, I, rw', q⟩
  by_cases h0 : 0 ≤ i
  · have hj : i.toNat = j := by
      rw [seqIndex_of h0 h5] at h1
      exact Option.some.inj h1
    exact item_listR pl.isList h0 (by omega) (by rw [hj]; simpa using ew) fin hs
  · have hj : (i + (its.toArray.size : Int)).toNat = j := by
      rw [seqIndex_neg (by omega) h4] at h1
      rw [List.size_toArray, ← hl]
      exact Option.some.inj h1
    exact subscriptTail_builtinR (x := w) pl.isList.typeIs slot_list_getitem.lookup
      (wpAny_getItem_list_neg (Q := fun r s' => r = w ∧ EP X pins σ Q r s') pl.isList (by omega) (by rw [List.size_toArray] <;> omega) (by omega) (by rw [hj]; simpa using ew) ⟨rfl, fin⟩) hs
theorem ix_tup : IxR X (rIxT X.K) := by
  intro value slice pins s σ H x y v u Q I rx ry h hs
  obtain ⟨p, xs, i, z, rfl, rfl, hq, he, q⟩ := h
  cases rx
  obtain ⟨t, rfl⟩ := ry
  obtain ⟨its, r, pl, hz⟩ := I.tuple hq
  obtain ⟨j, h1, h2, h3, h4, h5⟩ := atI_get he
  obtain ⟨w, ew, rw'⟩ := r.get h2
  have hl := r.length
  have hn := line63
  have fin : EP X pins σ Q w s := ⟨z, H, I, rw', q⟩
  exact subscriptTail_builtinR (x := w) pl.typeIs slot_tuple_getitem.lookup
    (getItem_tuple (j := j) (Q := fun r s' => r = w ∧ EP X pins σ Q r s') pl (by omega) (by omega) (by rw [List.size_toArray, ← hl]; exact h1) (by simpa using ew) ⟨rfl, fin⟩) hs
theorem ix_str : IxR X rIxS := by
  intro value slice pins s σ H x y v u Q I rx ry h hs
  obtain ⟨z, i, c, rfl, rfl, hz, he, q⟩ := h
  obtain ⟨t, rfl⟩ := rx
  obtain ⟨t', rfl⟩ := ry
  obtain ⟨j, h1, h2, h3, h4, h5⟩ := atI_get he
  have hl : z.cps.toList.length = z.length := by simp [Str.length]
  rw [hl] at h1 h4 h5
  have hn := line63
  exact tail_any (typeIs_str s z t) slot_str_getitem.lookup (getItem_str (c := c) (by
    have e1 : decide (i < -(2 ^ 63 : Int)) = false := decide_eq_false (by omega)
    have e2 : decide (i ≥ 2 ^ 63) = false := decide_eq_false (by omega)
    rw [e1, e2, Bool.or_false]) (by rw [h1]; simpa using h2) ⟨.str ⟨#[c]⟩, H, I.tok _, ⟨_, rfl⟩, q⟩) hs
/-- list, tuple or str -/
def rIx (K : PySem.W.Frag) : R2 := fun x y H Q => rIxL K x y H Q ∨ rIxT K x y H Q ∨ rIxS x y H Q
theorem ix_seq : IxR X (rIx X.K) := ix_list.or (ix_tup.or ix_str)

/-! ### xs[i] = v, any sign -/
/-- the list's object behind a store -/
theorem mapSeq_set (its : List Value) (n j : Nat) (u : Value) : Obj.mapSeq (·.setIfInBounds j u) { cls := .type "list", data := .seq its.toArray n } = { cls := .type "list", data := .seq (its.set j u).toArray n } := by
  simp [Obj.mapSeq]
theorem Inv.lst {pins : List (Addr × Obj)} {σ : St} {H : Hp} {s : Shared} {p : Addr} {xs : List V} (I : Inv X pins σ H s) (h : H p = some (.lst xs)) :
    ∃ (its : List Value) (n : Nat), Vals xs its ∧ s.heap.get? p = some { cls := .type "list", data := .seq its.toArray n } ∧ xs.length ≤ sizeLine := by
  obtain ⟨z, its, n, r, e⟩ := I.hok p _ h
  exact ⟨its, n, r, e, z⟩
/-- the list at p is written by an update of its object -/
theorem Inv.lstUpd {pins : List (Addr × Obj)} {σ : St} {H : Hp} {s : Shared} {p : Addr} {xs ys : List V} {its its' : List Value} {n n' : Nat} {f : Obj → Obj} (I : Inv X pins σ H s) (h : H p = some (.lst xs))
    (ho : s.heap.get? p = some { cls := .type "list", data := .seq its.toArray n }) (hf : f { cls := .type "list", data := .seq its.toArray n } = { cls := .type "list", data := .seq its'.toArray n' }) (r : Vals ys its') (hz : ys.length ≤ sizeLine) (t : Nat) :
    Inv X pins σ (upd H p (.lst ys)) { s with heap := s.heap.update p f, toks := t } := by
  have e : (s.heap.update p f).get? p = some { cls := .type "list", data := .seq its'.toArray n' } := by
    rw [Heap.get?_update_self f ho (by rw [hf] <;> rfl), hf]
  refine I.write (x := p) (e := p) (by rw [h]; trivial) (.inl rfl) (fun b u hb q => (Heap.get?_update_other _ _ (Ne.symm hb)).trans q) ⟨_, e⟩ ?_
  exact ⟨hz, its', n', r, e⟩
def rSetL : V → V → V → Hp → (Hp → Prop) → Prop := fun o i v H Q => ∃ p xs k j, o = .ref p ∧ i = .int k ∧ H p = some (.lst xs) ∧ ixN xs.length k = some j ∧ Q (upd H p (.lst (xs.set j v)))
theorem set_list : PSet X rSetL := by
  intro pins s σ H o i v ov iv u Q I ro ri rv h
  obtain ⟨p, xs, k, j, rfl, rfl, hp, hj, q⟩ := h
  cases ro
  obtain ⟨t, rfl⟩ := ri
  obtain ⟨its, n, r, ho, hz⟩ := I.lst hp
  obtain ⟨h1, h2, h3, h4⟩ := ixN_seq hj
  have hl := r.length
  have hn := line63
  have I' : Inv X pins σ (upd H p (.lst (xs.set j v))) { s with heap := s.heap.update p (Obj.mapSeq (·.setIfInBounds j u)) } :=
    I.lstUpd hp ho (mapSeq_set its n j u) (r.set rv j) (by rw [List.length_set]; exact hz) s.toks
  by_cases h0 : 0 ≤ k
  · have hk : k.toNat = j := by
      rw [seqIndex_of h0 h4] at h1
      exact Option.some.inj h1
    exact PySem.W.ki_setAt ho h0 (by omega) (by rw [List.size_toArray, ← hl]; exact h4) (by rw [hk]; exact ⟨_, I', q⟩)
  · have hk : (k + (its.toArray.size : Int)).toNat = j := by
      rw [seqIndex_neg (by omega) h3] at h1
      rw [List.size_toArray, ← hl]
      exact Option.some.inj h1
    exact PySem.W.ki_setBack ho (by omega) (by rw [List.size_toArray, ← hl]; exact h3) (by omega) (by rw [hk]; exact ⟨_, I', q⟩)

/-! ### slices -/
theorem slice_bounds (lo hi : Option Int) (n : Nat) : (sliceBounds lo hi none n).1 = ((HT.sIx n 0 lo : Nat) : Int) ∧ (sliceBounds lo hi none n).2.1 = ((HT.sIx n n hi : Nat) : Int) ∧ (sliceBounds lo hi none n).2.2 = 1 := by
  refine ⟨?_, ?_, rfl⟩
  · cases lo with
    | none => simp [sliceBounds, HT.sIx]
    | some i =>
      simp only [sliceBounds, HT.sIx, Option.getD_none, show (1 : Int) > 0 by decide, if_true]
      by_cases h : i < 0
      · simp only [h, if_true] <;> omega
      · simp only [h, if_false] <;> omega
  · cases hi with
    | none => simp [sliceBounds, HT.sIx]
    | some i =>
      simp only [sliceBounds, HT.sIx, Option.getD_none, show (1 : Int) > 0 by decide, if_true]
      by_cases h : i < 0
      · simp only [h, if_true] <;> omega
      · simp only [h, if_false] <;> omega
theorem slicePick_cut (its : List Value) (lo hi : Option Int) : slicePick its.toArray lo hi none = ((its.drop (HT.sIx its.length 0 lo)).take (HT.sIx its.length its.length hi - HT.sIx its.length 0 lo)).toArray := by
  obtain ⟨h1, h2, h3⟩ := slice_bounds lo hi its.toArray.size
  unfold slicePick
  rw [h1, h2, h3]
  simp only [sliceRange_one, pick_run, List.size_toArray] <;> rfl
/-- xs[lo:hi] of a list: a new list -/
def rSlL (K : PySem.W.Frag) : V → Option Int → Option Int → Hp → VK → Prop := fun x lo hi H Q => ∃ a xs, x = .ref a ∧ SqL K H a xs ∧ ∀ p, H p = none → Q (.ref p) (upd H p (.lst (cutV xs lo hi)))
theorem sl_list : SlR X (rSlL X.K) := by
  intro pins s σ H x v vl vu lo hi sl Q I rx hs pl pu h
  obtain ⟨a, xs, rfl, hx, q⟩ := h
  cases rx
  obtain ⟨its, r, ht, hz⟩ := I.list hx
  have hlen := r.length
  refine ⟨"list", _, slot_list_getitem.lookup, ht.isList.typeIs, ?_⟩
  refine wpAny_getItem_list_slice ht.isList hs pl pu .none (by simp) ?_ (by rw [List.size_toArray] <;> omega)
  rw [slicePick_cut, ← hlen]
  refine ⟨.ref s.heap.objs.size, _, I.laid (t' := s.toks) (o := .lst (cutV xs lo hi)) (fun b ob q => Heap.get?_push_of_some _ q) (Nat.le_refl _) ?_, rfl, q _ (I.hok.fresh (Nat.le_refl _))⟩
  exact ⟨Nat.le_trans (cutV_length xs lo hi) hz, _, 0, (r.drop (HT.sIx xs.length 0 lo)).take (HT.sIx xs.length xs.length hi - HT.sIx xs.length 0 lo), Heap.get?_push_size _ rfl⟩

/-! ### in, not in: flat items -/
def flatV : V → Bool
  | .non => true
  | .bl _ => true
  | .int _ => true
  | .str _ => true
  | _ => false
/-- == of flat values -/
def eqV : V → V → Bool
  | .non, .non => true
  | .bl a, .bl b => a == b
  | .bl a, .int b => (if a then 1 else 0) == b
  | .int a, .bl b => a == (if b then 1 else 0)
  | .int a, .int b => a == b
  | .str a, .str b => a == b
  | _, _ => false
theorem eqAt_V {A : Around} {s : Shared} {y x : V} {u v : Value} (ry : RelV y u) (rx : RelV x v) (fy : flatV y = true) (fx : flatV x = true) : SeqAt.EqAt A s u v (eqV y x) := by
  cases y with
  | non =>
    cases ry
    cases x with
    | non => cases rx; exact SeqAt.EqAt.same _
    | bl b => cases rx; exact SeqAt.EqAt.none_bool b
    | int b => obtain ⟨t, rfl⟩ := rx; exact SeqAt.EqAt.none_int b t
    | str b => obtain ⟨t, rfl⟩ := rx; exact SeqAt.EqAt.none_str b t
    | _ => exact absurd (show false = true from fx) Bool.false_ne_true
  | bl a =>
    cases ry
    cases x with
    | non => cases rx; exact SeqAt.EqAt.bool_none a
    | bl b => cases rx; exact SeqAt.EqAt.bool_bool a b
    | int b => obtain ⟨t, rfl⟩ := rx; exact SeqAt.EqAt.bool_int a b t
    | str b => obtain ⟨t, rfl⟩ := rx; exact SeqAt.EqAt.bool_str a b t
    | _ => exact absurd (show false = true from fx) Bool.false_ne_true
  | int a =>
    obtain ⟨t', rfl⟩ := ry
    cases x with
    | non => cases rx; exact SeqAt.EqAt.int_none a t'
    | bl b => cases rx; exact SeqAt.EqAt.int_bool a t' b
    | int b => obtain ⟨t, rfl⟩ := rx; exact SeqAt.EqAt.int_int a t' b t
    | str b => obtain ⟨t, rfl⟩ := rx; exact SeqAt.EqAt.int_str a t' b t
    | _ => exact absurd (show false = true from fx) Bool.false_ne_true
  | str a =>
    obtain ⟨t', rfl⟩ := ry
    cases x with
    | non => cases rx; exact SeqAt.EqAt.str_none a t'
    | bl b => cases rx; exact SeqAt.EqAt.str_bool a t' b
    | int b => obtain ⟨t, rfl⟩ := rx; exact SeqAt.EqAt.str_int a t' b t
    | str b => obtain ⟨t, rfl⟩ := rx; exact SeqAt.EqAt.str_str a t' b t
    | _ => exact absurd (show false = true from fx) Bool.false_ne_true
  | _ => exact absurd (show false = true from fy) Bool.false_ne_true
/-- the items' answers, read off the values (a value's own answer does not lean on its token) -/
def eqU (x : V) (u : Value) : Bool := match u with
  | .none => eqV .non x
  | .bool b => eqV (.bl b) x
  | .int i _ => eqV (.int i) x
  | .str z _ => eqV (.str z) x
  | _ => false
theorem eqU_of {x y : V} {u : Value} (r : RelV y u) (f : flatV y = true) : eqU x u = eqV y x := by
  cases y with
  | non => cases r; rfl
  | bl b => cases r; rfl
  | int i => obtain ⟨t, rfl⟩ := r; rfl
  | str z => obtain ⟨t, rfl⟩ := r; rfl
  | _ => exact absurd (show false = true from f) Bool.false_ne_true
theorem any_eqU {x : V} : ∀ {xs : List V} {us : List Value}, Vals xs us → xs.all flatV = true → us.any (eqU x) = xs.any fun y => eqV y x
  | _, _, .nil, _ => rfl
  | y :: xs, u :: us, .cons r t, f => by
    rw [List.all_cons, Bool.and_eq_true] at f
    rw [List.any_cons, List.any_cons, eqU_of r f.1, any_eqU t f.2]
theorem mem_eqAt {A : Around} {s : Shared} {x : V} {v : Value} (rx : RelV x v) (fx : flatV x = true) : ∀ {xs : List V} {us : List Value}, Vals xs us → xs.all flatV = true → ∀ u ∈ us, SeqAt.EqAt A s u v (eqU x u)
  | _, _, .nil, _ => fun u hu => by cases hu
  | y :: xs, u :: us, .cons r t, f => fun u' hu => by
    rw [List.all_cons, Bool.and_eq_true] at f
    rcases List.mem_cons.mp hu with rfl | hu
    · rw [eqU_of r f.1]; exact eqAt_V r rx f.1 fx
    · exact mem_eqAt rx fx t f.2 u' hu
def inV (x : V) (xs : List V) : Bool := xs.any fun y => eqV y x
/-- x in a list or tuple of flat items -/
def rIn (K : PySem.W.Frag) (neg : Bool) : R2 := fun x y H Q => ∃ p xs, y = .ref p ∧ (SqL K H p xs ∨ SqT K H p xs) ∧ flatV x = true ∧ xs.all flatV = true ∧ Q (.bl (if neg then !inV x xs else inV x xs)) H
theorem op_in_seq : OpR X (compareOp .In) (rIn X.K false) := by
  intro pins s σ H x y v u Q I rx ry h
  obtain ⟨p, xs, rfl, hq, fx, fs, q⟩ := h
  cases ry
  rcases hq with hq | hq
  · obtain ⟨its, r, pl, hz⟩ := I.list hq
    refine SeqAt.in_listAt (eqU x) pl.isList (fun w hw => mem_eqAt rx fx r fs w (by simpa using hw)) ⟨.bl _, H, I, rfl, ?_⟩
    rw [show its.toArray.any (eqU x) = its.any (eqU x) by simp, any_eqU r fs]
    exact q
  · obtain ⟨its, r, pl, hz⟩ := I.tuple hq
    refine SeqAt.in_tupleAt (eqU x) pl (fun w hw => mem_eqAt rx fx r fs w (by simpa using hw)) ⟨.bl _, H, I, rfl, ?_⟩
    rw [show its.toArray.any (eqU x) = its.any (eqU x) by simp, any_eqU r fs]
    exact q
theorem op_notIn_seq : OpR X (compareOp .NotIn) (rIn X.K true) := by
  intro pins s σ H x y v u Q I rx ry h
  obtain ⟨p, xs, rfl, hq, fx, fs, q⟩ := h
  cases ry
  rcases hq with hq | hq
  · obtain ⟨its, r, pl, hz⟩ := I.list hq
    refine SeqAt.notIn_listAt (eqU x) pl.isList (fun w hw => mem_eqAt rx fx r fs w (by simpa using hw)) ⟨.bl _, H, I, rfl, ?_⟩
    rw [show its.toArray.any (eqU x) = its.any (eqU x) by simp, any_eqU r fs]
    exact q
  · obtain ⟨its, r, pl, hz⟩ := I.tuple hq
    refine SeqAt.notIn_tupleAt (eqU x) pl (fun w hw => mem_eqAt rx fx r fs w (by simpa using hw)) ⟨.bl _, H, I, rfl, ?_⟩
    rw [show its.toArray.any (eqU x) = its.any (eqU x) by simp, any_eqU r fs]
    exact q
theorem op_notIn_str : OpR X (compareOp .NotIn) (fun x y H Q => ∃ i j, x = .str i ∧ y = .str j ∧ Q (.bl (!(!(Builtin.Str.occurrences j i 0 j.length 1).isEmpty))) H) := by
  intro pins s σ H x y v u Q I rx ry h
  obtain ⟨i, j, rfl, rfl, q⟩ := h
  obtain ⟨t, rfl⟩ := rx
  obtain ⟨t', rfl⟩ := ry
  exact notIn_str ⟨.bl _, H, I, rfl, q⟩

/-! ### len, list(x), tuple(x) of any list or tuple that is read -/
theorem call_len_seq : CallR X (.builtin "len") (fun xs H Q => ∃ p ys, xs = [.ref p] ∧ (SqL X.K H p ys ∨ SqT X.K H p ys) ∧ Q (.int ys.length) H) := by
  intro pins s σ H xs us Q I r h
  obtain ⟨p, ys, rfl, hq, q⟩ := h
  obtain ⟨u, rfl, rx⟩ := vals1 r
  cases rx
  have hn := line63
  rcases hq with hq | hq
  · obtain ⟨its, r', pl, hz⟩ := I.list hq
    have hlen := r'.length
    exact Calls.call_len_list pl.isList (by simp only [List.size_toArray] <;> omega) ⟨.int ys.length, H, I.tok _, ⟨s.toks + 1, by rw [List.size_toArray, hlen]⟩, q⟩
  · obtain ⟨its, r', pl, hz⟩ := I.tuple hq
    have hlen := r'.length
    exact len_tuple pl (by simp only [List.size_toArray] <;> omega) ⟨.int ys.length, H, I.tok _, ⟨s.toks + 1, by rw [List.size_toArray, hlen]⟩, q⟩
theorem call_len_str : CallR X (.builtin "len") (fun xs H Q => ∃ z, xs = [.str z] ∧ z.length ≤ sizeLine ∧ Q (.int z.length) H) := by
  intro pins s σ H xs us Q I r h
  obtain ⟨z, rfl, hz, q⟩ := h
  obtain ⟨u, rfl, t, rfl⟩ := vals1 r
  have hn := line63
  exact len_str (by omega) ⟨.int z.length, H, I.tok _, ⟨_, rfl⟩, q⟩
theorem CallR.or {f : Value} {r r' : List V → Hp → VK → Prop} (h : CallR X f r) (h' : CallR X f r') : CallR X f (fun xs H Q => r xs H Q ∨ r' xs H Q) := by
  intro pins s σ H xs us Q I rs q
  rcases q with q | q
  · exact h pins s σ H xs us Q I rs q
  · exact h' pins s σ H xs us Q I rs q
theorem call_list_of : CallR X (.type "list") (fun xs H Q => ∃ p ys, xs = [.ref p] ∧ (SqL X.K H p ys ∨ SqT X.K H p ys) ∧ ∀ l, H l = none → Q (.ref l) (upd H l (.lst ys))) := by
  intro pins s σ H xs us Q I r h
  obtain ⟨p, ys, rfl, hq, q⟩ := h
  obtain ⟨u, rfl, rx⟩ := vals1 r
  cases rx
  have fin : ∀ (its : List Value), Vals ys its → ys.length ≤ sizeLine → ∀ (h' : Heap) (c' : Nat), (∀ b o', s.heap.get? b = some o' → h'.get? b = some o') →
      h'.get? s.heap.objs.size = some { cls := .type "list", dict := none, data := .seq its.toArray c', slots := #[] } → EP X pins σ Q (.ref s.heap.objs.size) { s with heap := h' } := fun its r' hz h' c' kp e =>
    ⟨.ref s.heap.objs.size, _, I.laid (t' := s.toks) kp (Nat.le_refl _) (show ObjOk X.prog X.w _ h' _ (.lst ys) from ⟨hz, its, c', r', e⟩), rfl, q _ (I.hok.fresh (Nat.le_refl _))⟩
  rcases hq with hq | hq
  · obtain ⟨its, r', pl, hz⟩ := I.list hq
    have hlen := r'.length
    obtain ⟨o, ho, hc, n, hd⟩ := pl.isList
    exact call_list_seq p (.inl rfl) ho hc hd (fun h' c' kp e => fin its r' hz h' c' kp e) (by simp only [List.size_toArray] <;> omega)
  · obtain ⟨its, r', pl, hz⟩ := I.tuple hq
    have hlen := r'.length
    obtain ⟨o, ho, hc, n, hd⟩ := pl
    exact call_list_seq p (.inr rfl) ho hc hd (fun h' c' kp e => fin its r' hz h' c' kp e) (by simp only [List.size_toArray] <;> omega)
theorem call_tuple_of : CallR X (.type "tuple") (fun xs H Q => ∃ p ys, xs = [.ref p] ∧ ((SqL X.K H p ys ∧ ∀ l, H l = none → Q (.ref l) (upd H l (.tup ys))) ∨ (SqT X.K H p ys ∧ Q (.ref p) H))) := by
  intro pins s σ H xs us Q I r h
  obtain ⟨p, ys, rfl, h⟩ := h
  obtain ⟨u, rfl, rx⟩ := vals1 r
  cases rx
  rcases h with ⟨hq, q⟩ | ⟨hq, q⟩
  · obtain ⟨its, r', pl, hz⟩ := I.list hq
    have hlen := r'.length
    refine call_tuple_list pl.isList (fun h' kp => ?_) (by simp only [List.size_toArray] <;> omega)
    have I1 : Inv X pins σ H { s with heap := h' } := I.kept (t' := s.toks) kp
    have I2 : Inv X pins σ (upd H h'.objs.size (.tup ys)) { s with heap := h'.push { cls := .type "tuple", data := .seq its.toArray } } :=
      I1.laid (t' := s.toks) (fun b o e => Heap.get?_push_of_some _ e) (Nat.le_refl _) (show ObjOk X.prog X.w _ _ _ (.tup ys) from ⟨hz, its, r', IsTup.new _ _⟩)
    exact ⟨.ref h'.objs.size, _, I2, rfl, q _ (I1.hok.fresh (Nat.le_refl _))⟩
  · obtain ⟨its, r', pl, hz⟩ := I.tuple hq
    exact call_tuple_same pl ⟨.ref p, H, I, rfl, q⟩

/-! ### the call of a builtin's method: o.m(..) -/
/-- the value is of that builtin type -/
def tyV (K : PySem.W.Frag) (T : String) (x : V) (H : Hp) : Prop := match x with
  | .str _ => T = "str"
  | .int _ => T = "int"
  | .ref p => (T = "list" ∧ ∃ xs, SqL K H p xs) ∨ (T = "tuple" ∧ ∃ o, K.lookup p = some o ∧ o.cls = .type "tuple" ∧ o.dict = none) ∨
      (T = "dict" ∧ ((∃ kvs, H p = some (.dK kvs)) ∨ ∃ kvs, H p = some (.dT kvs))) ∨ (T = "set" ∧ ∃ S n, H p = some (.set S n))
  | _ => False
theorem tyV_is {pins : List (Addr × Obj)} {σ : St} {H : Hp} {s : Shared} {T : String} {x : V} {v : Value} (I : Inv X pins σ H s) (r : RelV x v) (ty : tyV X.K T x H) :
    s.TypeIs v T ∧ ∀ a, v = .ref a → ∃ ob, s.heap.get? a = some ob ∧ ob.dict = none := by
  cases x with
  | str z =>
    obtain ⟨t, rfl⟩ := r
    cases (show T = "str" from ty)
    exact ⟨typeIs_str s z t, fun _ e => nomatch e⟩
  | int i =>
    obtain ⟨t, rfl⟩ := r
    cases (show T = "int" from ty)
    exact ⟨typeIs_int s i t, fun _ e => nomatch e⟩
  | ref p =>
    cases r
    rcases ty with ⟨rfl, xs, hq⟩ | ⟨rfl, o, hk, hc, hd⟩ | ⟨rfl, hk⟩ | ⟨rfl, S, n, hk⟩
    · obtain ⟨its, _, pl, _⟩ := I.list hq
      refine ⟨pl.isList.typeIs, fun a e => ?_⟩
      cases e
      obtain ⟨o, n, e, c, hd, _⟩ := pl
      exact ⟨o, e, hd⟩
    · refine ⟨⟨o, I.kIn p o hk, hc⟩, fun a e => ?_⟩
      cases e
      exact ⟨o, I.kIn _ o hk, hd⟩
    · have z : ∃ o, s.heap.get? p = some o ∧ o.ExactDict := by
        rcases hk with ⟨kvs, hk⟩ | ⟨kvs, hk⟩
        · obtain ⟨_, _, _, _, o, _, _, e, ex, _⟩ := I.hok p _ hk
          exact ⟨o, e, ex⟩
        · obtain ⟨_, _, _, _, o, _, _, e, ex, _⟩ := I.hok p _ hk
          exact ⟨o, e, ex⟩
      obtain ⟨o, e, ex⟩ := z
      refine ⟨⟨o, e, ex.1⟩, fun a e2 => ?_⟩
      cases e2
      exact ⟨o, e, ex.2.1⟩
    · obtain ⟨o, _, _, _, e, ex, _⟩ := I.hok p _ hk
      refine ⟨⟨o, e, ex.1⟩, fun a e2 => ?_⟩
      cases e2
      exact ⟨o, e, ex.2.1⟩
  | _ => exact False.elim ty
def tBM0 (K : PySem.W.Frag) (T : String) (r : V → List V → Hp → VK → Prop) (to : TE) : TE := fun σ H Q => to σ H fun x H1 => tyV K T x H1 ∧ r x [] H1 Q
def tBM (K : PySem.W.Frag) (T : String) (r : V → List V → Hp → VK → Prop) (to : TE) (t : TA) : TE := fun σ H Q => to σ H fun x H1 => tyV K T x H1 ∧ t σ H1 fun xs H2 => r x xs H2 Q
variable {o e : Expr} {es : List Expr} {to : TE} {t : TA} {name : Str} {apos cpos : Pos} {T id : String} {r : V → List V → Hp → VK → Prop}
theorem pe_bm0 (pa : PlainAttrs T) (slot : Slot T name id) (hty : typeOf (.builtin id) = pure (.type "method_descriptor")) (hm : MtR X id r) (ho : PE X o to)
    (hbase : attributeBase o name X.env (eval o X.env) = eval o X.env := by rfl) (hline : (apos.endLine == cpos.line) = true := by rfl) : PE X (.Call (.Attribute o name apos) [] [] cpos) (tBM0 X.K T r to) := by
  intro pins s σ H Q I h
  refine wpAny_Call_method0_late hbase hline (thn (ho pins s σ H _ I h) fun v s1 ⟨x, H1, I1, r1, ty, q1⟩ => ?_)
  obtain ⟨h1, h2⟩ := tyV_is I1 r1 ty
  exact ⟨T, id, pa, slot, hty, h1, h2, Calls.callWith_builtin rfl (PySem.evalArgs_none (hm pins s1 σ H1 x [] v [] Q I1 r1 .nil q1))⟩
theorem pe_bm (pa : PlainAttrs T) (slot : Slot T name id) (hty : typeOf (.builtin id) = pure (.type "method_descriptor")) (hm : MtR X id r) (ho : PE X o to) (ha : PA X (e :: es) t)
    (hbase : attributeBase o name X.env (eval o X.env) = eval o X.env := by rfl)
    (hfew : ((backTo cpos (starEach (e :: es) X.env)).all (fun x => !x.1) && (backToKw cpos (keywordEach [] X.env)).all (fun x => x.1.isSome)
      && decide ((e :: es).length + ([] : List Keyword).length + (if ([] : List Keyword).isEmpty then 0 else 1) < 30)) = true := by rfl)
    (hline : (apos.endLine == cpos.line) = true := by rfl) (hs : starEach (e :: es) X.env = (false, eval e X.env) :: starEach es X.env := by rfl) (hplain : (backTo cpos (starEach es X.env)).any (·.1) = false := by rfl) :
    PE X (.Call (.Attribute o name apos) (e :: es) [] cpos) (tBM X.K T r to t) := by
  intro pins s σ H Q I h
  refine wpAny_Call_method_late hbase hfew hline rfl (thn (ho pins s σ H _ I h) fun v s1 ⟨x, H1, I1, r1, ty, q1⟩ => ?_)
  obtain ⟨h1, h2⟩ := tyV_is I1 r1 ty
  refine ⟨T, id, pa, slot, hty, h1, h2, ?_⟩
  have hA := ha cpos pins s1 σ H1 _ I1 q1
  rw [hs] at hA ⊢
  refine Calls.callWith_builtin (by show (false || (backTo cpos (starEach es X.env)).any (·.1)) = false; rw [hplain] <;> rfl) (Calls.evalArgs_plain ?_)
  exact thn hA fun us s2 ⟨vs, H2, I2, r2, q2⟩ => hm pins s2 σ H2 x vs v us Q I2 r1 r2 q2
/- xs.append(e), list.index on a module's tuple .. are MtR facts of 06m -/
end
end L2

namespace L2
open PySem PySem.Spec PyProof.Rows

def MtM (X : Cx) (id : String) (r : V → List V → Hp → VK → Prop) : Prop :=
  ∀ (pins : List (Addr × Obj)) (s : Shared) (σ : St) (H : Hp) (x : V) (xs : List V) (v : Value) (us : List Value) (Q : VK), Inv X pins σ H s → RelV x v → Vals xs us → r x xs H Q →
    wpAny (model X.prog X.w) X.A (call (.builtin id) (v :: us)) (EP X pins σ Q) X.xe s

/-! ### lists of values -/
theorem Vals.one : ∀ {x : V} {us : List Value}, Vals [x] us → ∃ u, us = [u] ∧ RelV x u
  | _, _, .cons r .nil => ⟨_, rfl, r⟩
theorem Vals.two : ∀ {x y : V} {us : List Value}, Vals [x, y] us → ∃ u v, us = [u, v] ∧ RelV x u ∧ RelV y v
  | _, _, _, .cons r (.cons q .nil) => ⟨_, _, rfl, r, q⟩
theorem Vals.zero : ∀ {us : List Value}, Vals [] us → us = []
  | _, .nil => rfl
theorem Vals.dropLast {xs : List V} {us : List Value} (h : Vals xs us) : Vals xs.dropLast us.dropLast := by
  induction h with
  | nil => exact .nil
  | cons r t ih =>
    cases t with
    | nil => exact .nil
    | cons q t' => exact .cons r ih
theorem Vals.eraseIdx : ∀ {xs : List V} {us : List Value} (i : Nat), Vals xs us → Vals (xs.eraseIdx i) (us.eraseIdx i)
  | _, _, _, .nil => .nil
  | _, _, 0, .cons _ t => t
  | _, _, i + 1, .cons r t => .cons r (Vals.eraseIdx i t)
theorem Vals.reverse {xs : List V} {us : List Value} (h : Vals xs us) : Vals xs.reverse us.reverse := by
  induction h with
  | nil => exact .nil
  | cons r t ih => rw [List.reverse_cons, List.reverse_cons]; exact Vals.append ih (.cons r .nil)
theorem Vals.rep {xs : List V} {us : List Value} (h : Vals xs us) : ∀ k : Nat, Vals (List.replicate k xs).flatten (List.replicate k us).flatten
  | 0 => .nil
  | k + 1 => by
    rw [List.replicate_succ, List.replicate_succ, List.flatten_cons, List.flatten_cons]
    exact Vals.append h (Vals.rep h k)
theorem erase_last {α : Type} (l : List α) : l.eraseIdx (l.length - 1) = l.dropLast := by
  induction l with
  | nil => rfl
  | cons a r ih =>
    cases r with
    | nil => rfl
    | cons b r =>
      have e : (a :: b :: r).length - 1 = ((b :: r).length - 1) + 1 := by
        have h1 : (a :: b :: r).length = r.length + 2 := rfl
        have h2 : (b :: r).length = r.length + 1 := rfl
        omega
      rw [e, List.eraseIdx_cons_succ, ih]
      all_goals rfl
theorem len_erase {α : Type} : ∀ (l : List α) (i : Nat), (l.eraseIdx i).length ≤ l.length
  | [], _ => Nat.le_refl _
  | _ :: _, 0 => Nat.le_succ _
  | _ :: r, i + 1 => Nat.succ_le_succ (len_erase r i)
theorem foldl_rep (its : List Value) : ∀ (k : Nat) (acc : List Value),
    List.foldl (fun x1 x2 => x1 ++ x2) acc.toArray (List.replicate k its.toArray) = (acc ++ (List.replicate k its).flatten).toArray
  | 0, acc => by simp
  | k + 1, acc => by
    have e : acc.toArray ++ its.toArray = (acc ++ its).toArray := by simp
    have e2 : (acc ++ its) ++ (List.replicate k its).flatten = acc ++ (List.replicate (k + 1) its).flatten := by
      rw [List.replicate_succ, List.flatten_cons, List.append_assoc]
    rw [← e2, ← foldl_rep its k (acc ++ its), ← e, List.replicate_succ, List.foldl_cons]

section
variable {X : Cx} {pins : List (Addr × Obj)} {σ : St} {H : Hp} {s : Shared} {l b : Addr} {xs ys zs : List V}

/-! ### the two steps: a tracked list is rewritten, a new list is laid -/
theorem Inv.lset {its its' : List Value} {n : Nat} {f : Array Value → Array Value} {t' : Nat} (I : Inv X pins σ H s) (hH : H l = some (.lst xs))
    (e : s.heap.get? l = some { cls := .type "list", data := .seq its.toArray n }) (hf : f its.toArray = its'.toArray) (hv : Vals ys its') (hz : ys.length ≤ sizeLine) :
    Inv X pins σ (upd H l (.lst ys)) { s with heap := s.heap.update l (Obj.mapSeq f), toks := t' } := by
  have q := PySem.IsL.update e f
  rw [hf] at q
  refine I.write (x := l) (e := l) (by rw [hH]; exact trivial) (.inl rfl) (fun b' u hb hu => (Heap.get?_update_other s.heap (Obj.mapSeq f) (Ne.symm hb)).trans hu) ⟨_, q⟩ ?_
  exact ⟨hz, its', _, hv, q⟩
theorem Inv.lnew {its : List Value} {t' : Nat} (I : Inv X pins σ H s) (hv : Vals ys its) (hz : ys.length ≤ sizeLine) :
    Inv X pins σ (upd H s.heap.objs.size (.lst ys)) { s with heap := s.heap.push { cls := .type "list", data := .seq its.toArray }, toks := t' } :=
  I.laid (fun _ _ q => Heap.get?_push_of_some _ q) (Nat.le_refl _) ⟨hz, its, 0, hv, Heap.get?_push_size _ rfl⟩
theorem Inv.fresh (I : Inv X pins σ H s) : H s.heap.objs.size = none := I.hok.fresh (Nat.le_refl _)
theorem Inv.lstM (I : Inv X pins σ H s) (hH : H l = some (.lst xs)) : xs.length ≤ sizeLine ∧ ∃ (its : List Value) (n : Nat), Vals xs its ∧ xs.length = its.length ∧ s.heap.get? l = some { cls := .type "list", data := .seq its.toArray n } := by
  obtain ⟨z, its, n, r, e⟩ := I.hok l _ hH
  exact ⟨z, its, n, r, r.length, e⟩

theorem notLongL {n : Nat} (h : n ≤ sizeLine) : Builtin.List.listTooLong n = false := by
  unfold Builtin.List.listTooLong
  exact decide_eq_false (by omega)
end

section
variable {X : Cx}

/-! ### methods -/
def rAppend : V → List V → Hp → VK → Prop := fun x vs H Q => ∃ l xs y, x = .ref l ∧ vs = [y] ∧ H l = some (.lst xs) ∧ xs.length < sizeLine ∧ Q .non (upd H l (.lst (xs ++ [y])))
theorem mt_append : MtM X "list.append" rAppend := by
  intro pins s σ H x vs v us Q I rx rv h
  obtain ⟨l, xs, y, rfl, rfl, hH, hz, q⟩ := h
  cases rx
  obtain ⟨u, rfl, ru⟩ := rv.one
  obtain ⟨z, its, n, r, hl, e⟩ := I.lstM hH
  refine call_meets F.slot_list_append ⟨_, e, rfl⟩ F.entry_list_append (F.args_list_append_2 _ _) (PySem.list_append l its.toArray n u (by rw [List.size_toArray]; omega)) ⟨e, ?_⟩
  refine ⟨.non, _, I.lset (its' := its ++ [u]) hH e (by simp) (r.append (.cons ru .nil)) ?_, rfl, q⟩
  rw [List.length_append, List.length_singleton]
  omega

def rExtend : V → List V → Hp → VK → Prop := fun x vs H Q => ∃ l b xs zs, x = .ref l ∧ vs = [.ref b] ∧ H l = some (.lst xs) ∧ H b = some (.lst zs) ∧ xs.length + zs.length ≤ sizeLine ∧ Q .non (upd H l (.lst (xs ++ zs)))
theorem mt_extend : MtM X "list.extend" rExtend := by
  intro pins s σ H x vs v us Q I rx rv h
  obtain ⟨l, b, xs, zs, rfl, rfl, hH, hB, hz, q⟩ := h
  cases rx
  obtain ⟨u, rfl, ru⟩ := rv.one
  cases ru
  obtain ⟨z, its, n, r, hl, e⟩ := I.lstM hH
  obtain ⟨z2, its2, n2, r2, hl2, e2⟩ := I.lstM hB
  have hsz : its.toArray.size + its2.toArray.size ≤ sizeLine := by rw [List.size_toArray, List.size_toArray]; omega
  have hlong : ¬ (!its.toArray.isEmpty && Builtin.List.listTooLong (its.toArray.size + its2.toArray.size)) = true := by
    rw [notLongL hsz, Bool.and_false]
    exact Bool.false_ne_true
  refine call_meets F.slot_list_extend ⟨_, e, rfl⟩ F.entry_list_extend (F.args_list_extend_2 _ _)
    (AutoSeq1.list_extend_list_list_0 l its.toArray n b its2.toArray n2 hlong (by rw [List.size_toArray]; omega) (by omega)) ⟨e, e2, ?_⟩
  refine ⟨.non, _, I.lset (its' := its ++ its2) hH e (by simp) (r.append r2) ?_, rfl, q⟩
  rw [List.length_append]
  omega

def rPop : V → List V → Hp → VK → Prop := fun x vs H Q => ∃ l xs y, x = .ref l ∧ vs = [] ∧ H l = some (.lst xs) ∧ xs[xs.length - 1]? = some y ∧ Q y (upd H l (.lst xs.dropLast))
theorem mt_pop : MtM X "list.pop" rPop := by
  intro pins s σ H x vs v us Q I rx rv h
  obtain ⟨l, xs, y, rfl, rfl, hH, hy, q⟩ := h
  cases rx
  have hus := rv.zero
  subst hus
  obtain ⟨z, its, n, r, hl, e⟩ := I.lstM hH
  obtain ⟨u, hu, ru⟩ := r.get hy
  have hy' : its.toArray[its.toArray.size - 1]? = some u := by
    show its.toArray[its.length - 1]? = some u
    rw [← Array.getElem?_toList, ← hl]
    exact hu
  refine call_meets F.slot_list_pop ⟨_, e, rfl⟩ F.entry_list_pop (F.args_list_pop_1 _) (MeetsSeq.list_pop_last l its.toArray n u hy' (by rw [List.size_toArray]; omega)) ⟨e, ?_⟩
  refine ⟨y, _, I.lset (its' := its.dropLast) hH e ?_ r.dropLast ?_, ru, q⟩
  · show its.toArray.eraseIdxIfInBounds (its.toArray.size - 1) = its.dropLast.toArray
    rw [List.size_toArray, List.eraseIdxIfInBounds_toArray, erase_last]
  · rw [List.length_dropLast]
    omega

def rPopAt : V → List V → Hp → VK → Prop := fun x vs H Q => ∃ l xs i k y, x = .ref l ∧ vs = [.int i] ∧ H l = some (.lst xs) ∧ -(2 ^ 63) ≤ i ∧ i < 2 ^ 63 ∧ seqIndex? i xs.length = some k ∧ xs[k]? = some y ∧ Q y (upd H l (.lst (xs.eraseIdx k)))
theorem mt_popAt : MtM X "list.pop" rPopAt := by
  intro pins s σ H x vs v us Q I rx rv h
  obtain ⟨l, xs, i, k, y, rfl, rfl, hH, h1, h2, hk, hy, q⟩ := h
  cases rx
  obtain ⟨u, rfl, ru⟩ := rv.one
  obtain ⟨t, rfl⟩ := ru
  obtain ⟨z, its, n, r, hl, e⟩ := I.lstM hH
  obtain ⟨w, hw, rw'⟩ := r.get hy
  refine call_meets F.slot_list_pop ⟨_, e, rfl⟩ F.entry_list_pop (F.args_list_pop_2 _ _)
    (MeetsSeq.list_pop_at l its.toArray n i t k w (fitsIndex_both h1 h2) (by rw [List.size_toArray, ← hl]; exact hk) (by rw [← Array.getElem?_toList]; exact hw) (by rw [List.size_toArray]; omega)) ⟨e, ?_⟩
  refine ⟨y, _, I.lset (its' := its.eraseIdx k) hH e ?_ (r.eraseIdx k) ?_, rw', q⟩
  · show its.toArray.eraseIdxIfInBounds k = (its.eraseIdx k).toArray
    rw [List.eraseIdxIfInBounds_toArray]
  · have := len_erase xs k
    omega

def rReverse : V → List V → Hp → VK → Prop := fun x vs H Q => ∃ l xs, x = .ref l ∧ vs = [] ∧ H l = some (.lst xs) ∧ Q .non (upd H l (.lst xs.reverse))
theorem mt_reverse : MtM X "list.reverse" rReverse := by
  intro pins s σ H x vs v us Q I rx rv h
  obtain ⟨l, xs, rfl, rfl, hH, q⟩ := h
  cases rx
  have hus := rv.zero
  subst hus
  obtain ⟨z, its, n, r, hl, e⟩ := I.lstM hH
  refine call_meets F.slot_list_reverse ⟨_, e, rfl⟩ F.entry_list_reverse (F.args_list_reverse_1 _) (AutoSeq1.list_reverse_list_0 l its.toArray n (by rw [List.size_toArray]; omega)) ⟨e, ?_⟩
  refine ⟨.non, _, I.lset (its' := its.reverse) hH e (by simp) r.reverse ?_, rfl, q⟩
  rw [List.length_reverse]
  omega

def rClear : V → List V → Hp → VK → Prop := fun x vs H Q => ∃ l xs, x = .ref l ∧ vs = [] ∧ H l = some (.lst xs) ∧ Q .non (upd H l (.lst []))
theorem mt_clear : MtM X "list.clear" rClear := by
  intro pins s σ H x vs v us Q I rx rv h
  obtain ⟨l, xs, rfl, rfl, hH, q⟩ := h
  cases rx
  have hus := rv.zero
  subst hus
  obtain ⟨z, its, n, r, hl, e⟩ := I.lstM hH
  refine call_meets F.slot_list_clear ⟨_, e, rfl⟩ F.entry_list_clear (F.args_list_clear_1 _) (AutoSeq1.list_clear_list_0 l its.toArray n (by rw [List.size_toArray]; omega)) ⟨e, ?_⟩
  exact ⟨.non, _, I.lset (its' := []) (ys := []) hH e rfl .nil (Nat.zero_le _), rfl, q⟩

/-! ### list + list, list += list, list * int -/
def rCat : R2 := fun x y H Q => ∃ l b xs zs, x = .ref l ∧ y = .ref b ∧ H l = some (.lst xs) ∧ H b = some (.lst zs) ∧ xs.length + zs.length ≤ sizeLine ∧ ∀ p, H p = none → Q (.ref p) (upd H p (.lst (xs ++ zs)))
theorem op_cat : OpR X (binaryOp .Add) rCat := by
  intro pins s σ H x y v u Q I rx ry h
  obtain ⟨l, b, xs, zs, rfl, rfl, hH, hB, hz, q⟩ := h
  cases rx
  cases ry
  obtain ⟨z, its, n, r, hl, e⟩ := I.lstM hH
  obtain ⟨z2, its2, n2, r2, hl2, e2⟩ := I.lstM hB
  refine PySem.P.add_list e e2 ?_ (by rw [List.size_toArray, List.size_toArray]; omega)
  have ea : its.toArray ++ its2.toArray = (its ++ its2).toArray := by simp
  rw [ea]
  exact ⟨.ref _, _, I.lnew (t' := s.toks) (r.append r2) (by rw [List.length_append]; omega), rfl, q _ I.fresh⟩
/-- a list times an int (a negative one is nothing) -/
def rRep : R2 := fun x y H Q => ∃ l k xs, x = .ref l ∧ y = .int k ∧ H l = some (.lst xs) ∧ -(2 ^ 63) ≤ k ∧ k < 2 ^ 63 ∧ xs.length * k.toNat ≤ sizeLine ∧
  ∀ p, H p = none → Q (.ref p) (upd H p (.lst (List.replicate k.toNat xs).flatten))
theorem len_rep {α : Type} (xs : List α) (k : Nat) : (List.replicate k xs).flatten.length = k * xs.length := by
  induction k with
  | zero => simp
  | succ k ih => rw [List.replicate_succ, List.flatten_cons, List.length_append, ih, Nat.succ_mul, Nat.add_comm]
theorem op_rep : OpR X (binaryOp .Mult) rRep := by
  intro pins s σ H x y v u Q I rx ry h
  obtain ⟨l, k, xs, rfl, rfl, hH, h1, h2, hz, q⟩ := h
  cases rx
  obtain ⟨t, rfl⟩ := ry
  obtain ⟨z, its, n, r, hl, e⟩ := I.lstM hH
  have hlen : its.toArray.size * k.toNat ≤ sizeLine := by rw [List.size_toArray, ← hl]; exact hz
  have hcap : ¬ its.toArray.size * k.toNat > (2 ^ 63 - 1) / 8 := by
    have : (sizeLine : Nat) ≤ (2 ^ 63 - 1) / 8 := by decide
    omega
  have hfit : ¬ (!Builtin.List.listFitsIndex k) = true := by
    rw [fitsIndex_both h1 h2]
    exact Bool.false_ne_true
  have hlong : ¬ Builtin.List.listTooLong (its.toArray.size * k.toNat) = true := by
    rw [notLongL hlen]
    exact Bool.false_ne_true
  have hnew : List.foldl (fun x1 x2 => x1 ++ x2) #[] (List.replicate (if its.toArray.isEmpty = true then 0 else k.toNat) its.toArray) = (List.replicate k.toNat its).flatten.toArray := by
    have f0 : ∀ m : Nat, List.foldl (fun x1 x2 => x1 ++ x2) #[] (List.replicate m its.toArray) = (List.replicate m its).flatten.toArray := fun m => by
      have := foldl_rep its m []
      rw [List.nil_append] at this
      exact this
    rw [f0]
    cases its with
    | nil => simp
    | cons a r' => rw [if_neg (by simp)]
  refine wpAny_binaryOp_repeat_ref (T := "list") (U := "int") (by decide) ⟨_, e, rfl⟩ (fun s' => typeIs_int s' k t) noFill_list_mul F.fills_int_mul F.slot_int_rmul repeat_list F.slot_int_index.lookup
    (call_meets F.slot_int_rmul (typeIs_int s k t) F.entry_int_rmul (F.args_int_rmul_2 _ _) (int___rmul___int_list k t l its.toArray n)
      ⟨e, rfl, ⟨_, e, rfl⟩, call_meets F.slot_list_mul ⟨_, e, rfl⟩ F.entry_list_mul (F.args_list_mul_2 _ _) (AutoListH.list___mul___list_int_3 l its.toArray n k t hfit hcap hlong) ⟨e, ?_⟩⟩)
  rw [hnew]
  exact ⟨.ref _, _, I.lnew (t' := s.toks) (r.rep k.toNat) (by rw [len_rep, Nat.mul_comm]; exact hz), rfl, q _ I.fresh⟩

/-! ### del xs[i] -/
theorem del_list {pins : List (Addr × Obj)} {s : Shared} {σ : St} {H : Hp} {l : Addr} {xs : List V} {i : Int} {t : Tok} {k : Nat} {Q : Unit → Shared → Prop} (I : Inv X pins σ H s) (hH : H l = some (.lst xs))
    (h1 : -(2 ^ 63) ≤ i) (h2 : i < 2 ^ 63) (hk : seqIndex? i xs.length = some k) (h : ∀ s', Inv X pins σ (upd H l (.lst (xs.eraseIdx k))) s' → Q () s') :
    wpAny (model X.prog X.w) X.A (delItem (.ref l) (.int i t)) Q X.xe s := by
  obtain ⟨z, its, n, r, hl, e⟩ := I.lstM hH
  refine PySem.P.delItem_list (k := k) e (fitsIndex_both h1 h2) (by rw [List.size_toArray, ← hl]; exact hk) (h _ ?_) (by rw [List.size_toArray]; omega)
  refine I.lset (its' := its.eraseIdx k) (t' := s.toks) hH e ?_ (r.eraseIdx k) ?_
  · show its.toArray.eraseIdxIfInBounds k = (its.eraseIdx k).toArray
    rw [List.eraseIdxIfInBounds_toArray]
  · have := len_erase xs k
    omega
end

/-! ### xs[a:b] = ys -/
section
variable {prog : Program} {w : World} {A : Around} {E : Value → Shared → Prop} {s : Shared}
theorem splice_eq (its its2 : List Value) (a c : Nat) : its.toArray.extract 0 a ++ its2.toArray ++ its.toArray.extract c its.toArray.size = (its.take a ++ its2 ++ its.drop c).toArray := by
  apply Array.toList_inj.mp
  first
    | (simp
       exact List.take_of_length_le (by simp))
    | simp [List.take_of_length_le]
    | simp
theorem bounds_run {a c n : Nat} (hac : a ≤ c) (hc : c ≤ n) : sliceBounds (some (a : Int)) (some (c : Int)) none n = ((a : Int), (c : Int), 1) := by
  simp only [sliceBounds, Option.getD_none]
  have h1 : ¬ ((a : Int) < 0) := by omega
  have h2 : ¬ ((c : Int) < 0) := by omega
  simp only [h1, h2, if_false, show (1 : Int) > 0 by decide, if_true]
  congr 1
  · omega
  · congr 1; omega
set_option maxRecDepth 100000 in
/-- list.__setitem__ with a slice of step one and another list -/
theorem setItem_slice {l b sl : Addr} {items new : Array Value} {n n2 : Nat} {vl vu : Value} {a c : Nat} {Q : Unit → Shared → Prop}
    (e : s.heap.get? l = some { cls := .type "list", data := .seq items n }) (e2 : s.heap.get? b = some { cls := .type "list", data := .seq new n2 }) (hne : l ≠ b)
    (hs : s.heap.IsSliceOf sl vl vu .none) (pl : IsPart vl (some (a : Int))) (pu : IsPart vu (some (c : Int))) (hac : a ≤ c) (hc : c ≤ items.size)
    (hsz : items.size + new.size ≤ sizeLine) (h : Q () { s with heap := s.heap.update l (Obj.mapSeq fun xs => xs.extract 0 a ++ new ++ xs.extract c xs.size) }) :
    wpAny (model prog w) A (setItem (.ref l) (.ref sl) (.ref b)) Q E s := by
  have hl : s.heap.IsList l items := PySem.IsL.isList e
  have hb : s.heap.IsList b new := PySem.IsL.isList e2
  obtain ⟨os, hos, hcs, hds⟩ := id hs
  have hTs : s.TypeIs (.ref sl) "slice" := ⟨os, hos, hcs⟩
  have hstep : ¬ ((rawPart none == rawInt 0) = true) := Bool.false_ne_true
  have hsame : Builtin.List.listSameRef (.ref l) (.ref b) = false := by
    unfold Builtin.List.listSameRef
    exact beq_eq_false_iff_ne.mpr hne
  have hmax : (max (a : Int) (c : Int)).toNat = c := by omega
  have hz' : ((fun xs : Array Value => xs.extract 0 a ++ new ++ xs.extract c xs.size) items).size ≤ sizeLine + 1 := by
    simp only [Array.size_append, Array.size_extract]
    omega
  unfold setItem
  try with_reducible refine wpAny_holding ?_
  first | refine wpAny_bind (wpAny_pure ?_) | skip
  refine wpAny_bind (wpAny_sequenceKey hl.typeIs (by decide) ?_)
  refine wpAny_bind (wpAny_callSpecial?_slot (name := Str.ofString "__setitem__") hl.typeIs slot_list_setitem
    (wpAny_call_entry slot_list_setitem hl.typeIs entry_list_setitem ?_ (args_list_setitem _ _ _)))
  show wpAny _ _ (Builtin.List.listSubscript? (.ref sl) >>= _) _ _ s
  refine wpAny_bind ?_
  unfold Builtin.List.listSubscript?
  refine wpAny_bind (wpAny_specialOf hTs slice_no_index ?_)
  simp only [Option.isNone_none, if_true]
  refine wpAny_pure ?_
  show wpAny _ _ (typeOf (.ref sl) >>= _) _ _ s
  refine wpAny_bind (wpAny_typeOf hTs ?_)
  first
    | rw [if_neg (by decide)]
    | refine PySem.W.KFB.if_not (by decide) ?_
  rw [listSliceParts_eq]
  refine wpAny_bind (wpAny_bind (wpAny_field hos hds (x := .none) rfl (wpAny_bind (wpAny_listPart .none ?_))))
  rw [if_neg hstep]
  refine wpAny_bind (wpAny_field hos hds (x := vl) rfl (wpAny_bind (wpAny_listPart pl ?_)))
  refine wpAny_bind (wpAny_field hos hds (x := vu) rfl (wpAny_bind (wpAny_listPart pu (wpAny_pure ?_))))
  first
    | simp only [hsame, Bool.false_eq_true, if_false]
    | refine PySem.W.KFB.if_not hsame ?_
    | (dsimp only
       rw [if_neg (by rw [hsame]; exact Bool.false_ne_true)])
  refine wpAny_bind (m := Builtin.List.listAllItems (.ref b) "must assign iterable to extended slice") ?_
  unfold Builtin.List.listAllItems
  refine wpAny_bind (wpAny_typeOf hb.typeIs ?_)
  first
    | refine PySem.W.KFB.if_so (by decide) ?_
    | rw [if_pos (by decide)]
    | simp only [beq_self_eq_true, Bool.true_or, if_true]
  unfold Builtin.List.listItems
  refine wpAny_bind (wpAny_seqItems e2 rfl (wpAny_pure ?_))
  refine wpAny_bind (wpAny_bind (wpAny_seqItems e rfl (wpAny_pure ?_)))
  refine wpAny_bind (wpAny_of_eq ((sliceIndices_raw (some (a : Int)) (some (c : Int)) none items.size (by simp)).trans (congrArg (pure : Int × Int × Int → Sem (Int × Int × Int)) (bounds_run hac hc))) ?_)
  show wpAny _ _ (if ((1 : Int) == 1) = true then _ else _) _ _ s
  rw [if_pos (by decide)]
  refine wpAny_bind (wpAny_rule ?_)
  first
    | simp only [notLongL hsz, Bool.false_eq_true, if_false]
    | refine PySem.W.KFB.if_not (notLongL hsz) ?_
  first | refine wpAny_bind (wpAny_pure ?_) | skip
  show wpAny _ _ (updateSeq l (fun xs => xs.extract 0 ((a : Int)).toNat ++ new ++ xs.extract (max (a : Int) (c : Int)).toNat xs.size) >>= _) _ _ s
  rw [hmax, Int.toNat_natCast]
  refine wpAny_bind (wpAny_updateSeq (hz := Nat.le_trans (Nat.le_add_right _ _) hsz) (_hz' := hz') e rfl ?_)
  refine wpAny_bind (wpAny_letGo ?_)
  first
    | exact wpAny_bind (wpAny_pure (wpAny_pure ⟨.none, rfl, wpAny_pure h⟩))
    | exact wpAny_pure ⟨.none, rfl, wpAny_pure h⟩
end

section
variable {X : Cx}
/-- xs[a:c] = ys of another list, at the value level: sl is the slice object that was just made -/
theorem set_slice {pins : List (Addr × Obj)} {s : Shared} {σ : St} {H : Hp} {l b sl : Addr} {xs ys : List V} {a c : Int} {vl vu : Value} {Q : Unit → Shared → Prop} (I : Inv X pins σ H s)
    (hH : H l = some (.lst xs)) (hB : H b = some (.lst ys)) (hne : l ≠ b) (hs : s.heap.IsSliceOf sl vl vu .none) (ra : RelV (.int a) vl) (rc : RelV (.int c) vu) (h0 : 0 ≤ a) (hac : a ≤ c) (hc : c ≤ xs.length)
    (hz : xs.length + ys.length ≤ sizeLine) (h : ∀ s', Inv X pins σ (upd H l (.lst (xs.take a.toNat ++ ys ++ xs.drop c.toNat))) s' → Q () s') :
    wpAny (model X.prog X.w) X.A (setItem (.ref l) (.ref sl) (.ref b)) Q X.xe s := by
  obtain ⟨ta, rfl⟩ := ra
  obtain ⟨tc, rfl⟩ := rc
  obtain ⟨z, its, n, r, hl, e⟩ := I.lstM hH
  obtain ⟨z2, its2, n2, r2, hl2, e2⟩ := I.lstM hB
  obtain ⟨a', rfl⟩ := Int.eq_ofNat_of_zero_le h0
  obtain ⟨c', rfl⟩ := Int.eq_ofNat_of_zero_le (Int.le_trans h0 hac)
  simp only [Int.toNat_natCast] at h
  refine setItem_slice (a := a') (c := c') e e2 hne hs (.int _ _) (.int _ _) (by omega) (by rw [List.size_toArray]; omega) (by rw [List.size_toArray, List.size_toArray]; omega) (h _ ?_)
  refine I.lset (its' := its.take a' ++ its2 ++ its.drop c') (t' := s.toks) hH e ?_ (Vals.append (Vals.append (r.take _) r2) (r.drop _)) ?_
  · exact splice_eq its its2 a' c'
  · rw [List.length_append, List.length_append, List.length_take, List.length_drop]
    omega
end
end L2
namespace L2
open PySem PySem.Spec PyProof.Rows

/-! ### lists of pairs as tables -/
section
variable {κ : Type} [DecidableEq κ]
def valV (kvs : List (κ × V)) (k : κ) : Option V := (kvs.find? fun kv => decide (kv.1 = k)).map (·.2)
/-- in its place, or at the end -/
def putK (kvs : List (κ × V)) (k : κ) (v : V) : List (κ × V) :=
  if (kvs.any fun kv => decide (kv.1 = k)) = true then kvs.map (fun kv => if kv.1 = k then (kv.1, v) else kv) else kvs ++ [(k, v)]
def dropK (kvs : List (κ × V)) (k : κ) : List (κ × V) := kvs.filter fun kv => decide (kv.1 ≠ k)

theorem valV_nil {k : κ} : valV ([] : List (κ × V)) k = none := rfl
theorem valV_pos {p : κ × V} {r : List (κ × V)} {k : κ} (e : p.1 = k) : valV (p :: r) k = some p.2 := by simp [valV, List.find?_cons, e]
theorem valV_neg {p : κ × V} {r : List (κ × V)} {k : κ} (e : ¬ p.1 = k) : valV (p :: r) k = valV r k := by simp [valV, List.find?_cons, e]
theorem valV_any (k : κ) : ∀ kvs : List (κ × V), (kvs.any fun kv => decide (kv.1 = k)) = (valV kvs k).isSome
  | [] => rfl
  | p :: r => by
    rw [List.any_cons]
    by_cases e : p.1 = k
    · simp only [valV_pos e, decide_eq_true e, Bool.true_or, Option.isSome_some]
    · rw [valV_neg e, decide_eq_false e, Bool.false_or]; exact valV_any k r
theorem valV_map (k j : κ) (y : V) : ∀ kvs : List (κ × V), valV (kvs.map fun kv => if kv.1 = k then (kv.1, y) else kv) j = (valV kvs j).map fun x => if j = k then y else x
  | [] => rfl
  | p :: r => by
    have ih := valV_map k j y r
    rw [List.map_cons]
    by_cases h : p.1 = k
    · rw [if_pos h]
      by_cases e : p.1 = j
      · rw [valV_pos (p := (p.1, y)) e, valV_pos e, Option.map_some, if_pos (e.symm.trans h)]
      · rw [valV_neg (p := (p.1, y)) e, valV_neg e, ih]
    · rw [if_neg h]
      by_cases e : p.1 = j
      · rw [valV_pos (p := p) e, valV_pos e, Option.map_some, if_neg (fun z => h (e.trans z))]
      · rw [valV_neg (p := p) e, valV_neg e, ih]
theorem valV_snoc (k j : κ) (y : V) : ∀ kvs : List (κ × V), valV kvs k = none → valV (kvs ++ [(k, y)]) j = if j = k then some y else valV kvs j
  | [], _ => by
    by_cases e : k = j
    · rw [if_pos e.symm]; exact valV_pos (p := (k, y)) e
    · rw [if_neg (fun z => e z.symm)]; exact valV_neg (p := (k, y)) e
  | p :: r, hn => by
    rw [List.cons_append]
    have hk : ¬ p.1 = k := fun z => by rw [valV_pos z] at hn; cases hn
    rw [valV_neg hk] at hn
    have ih := valV_snoc k j y r hn
    by_cases e : p.1 = j
    · rw [valV_pos e, valV_pos e, if_neg (fun z => hk (e.trans z))]
    · rw [valV_neg e, valV_neg e, ih]
theorem valV_put (kvs : List (κ × V)) (k j : κ) (y : V) : valV (putK kvs k y) j = if j = k then some y else valV kvs j := by
  unfold putK
  by_cases a : (kvs.any fun kv => decide (kv.1 = k)) = true
  · rw [if_pos a, valV_map]
    rw [valV_any] at a
    by_cases e : j = k
    · obtain ⟨x, hx⟩ := Option.isSome_iff_exists.mp a
      rw [if_pos e, e, hx, Option.map_some, if_pos rfl]
    · rw [if_neg e]
      cases valV kvs j with
      | none => rfl
      | some x => rw [Option.map_some, if_neg e]
  · rw [if_neg a]
    refine valV_snoc k j y kvs ?_
    rw [valV_any] at a
    cases q : valV kvs k with
    | none => rfl
    | some x => rw [q] at a; exact (a rfl).elim
theorem length_putK (kvs : List (κ × V)) (k : κ) (v : V) : (putK kvs k v).length ≤ kvs.length + 1 := by
  unfold putK
  split
  · rw [List.length_map]; omega
  · rw [List.length_append, List.length_cons, List.length_nil]; omega
theorem putK_new {kvs : List (κ × V)} {k : κ} (v : V) (h : valV kvs k = none) : putK kvs k v = kvs ++ [(k, v)] := by
  unfold putK
  rw [valV_any, h]
  exact if_neg (by decide)

theorem RelO.isSome_eq {o : Option V} {u : Option Value} (r : RelO o u) : o.isSome = u.isSome := by
  cases o with
  | none => cases u with
    | none => rfl
    | some _ => exact (show False from r).elim
  | some _ => cases u with
    | none => exact (show False from r).elim
    | some _ => rfl
theorem RelO.getD {o : Option V} {u : Option Value} {d : V} {d' : Value} (r : RelO o u) (rd : RelV d d') : RelV (o.getD d) (u.getD d') := by
  cases o with
  | none => cases u with
    | none => exact rd
    | some _ => exact (show False from r).elim
  | some _ => cases u with
    | none => exact (show False from r).elim
    | some _ => exact r

/-- raw tables of the same keys -/
theorem KV.val {kvs : List (κ × V)} {vs : List (κ × Value)} (r : KV kvs vs) (k : κ) : RelO (valV kvs k) (valueAt vs k) := by
  unfold KV at r
  induction r with
  | nil => exact True.intro
  | @cons p q ps qs h t ih =>
    obtain ⟨h1, h2⟩ := h
    by_cases e : p.1 = k
    · have e' : q.1 = k := h1.symm.trans e
      have b : valueAt (q :: qs) k = some q.2 := by simp [valueAt, List.find?_cons, e']
      rw [valV_pos e, b]; exact h2
    · have e' : ¬ q.1 = k := fun z => e (h1.trans z)
      have b : valueAt (q :: qs) k = valueAt qs k := by simp [valueAt, List.find?_cons, e']
      rw [valV_neg e, b]; exact ih
theorem KV.any {kvs : List (κ × V)} {vs : List (κ × Value)} (r : KV kvs vs) (k : κ) : (kvs.any fun kv => decide (kv.1 = k)) = vs.any fun kv => decide (kv.1 = k) := by
  unfold KV at r
  induction r with
  | nil => rfl
  | cons h t ih => rw [List.any_cons, List.any_cons, ih, h.1]
theorem KV.repl {kvs : List (κ × V)} {vs : List (κ × Value)} (r : KV kvs vs) (k : κ) {y : V} {u : Value} (ry : RelV y u) :
    KV (kvs.map fun kv => if kv.1 = k then (kv.1, y) else kv) (vs.map fun kv => if kv.1 = k then (kv.1, u) else kv) := by
  unfold KV at r ⊢
  induction r with
  | nil => exact .nil
  | @cons p q ps qs h t ih =>
    rw [List.map_cons, List.map_cons]
    refine .cons ?_ ih
    obtain ⟨h1, h2⟩ := h
    by_cases e : p.1 = k
    · rw [if_pos e, if_pos (h1.symm.trans e)]; exact ⟨h1, ry⟩
    · rw [if_neg e, if_neg (fun z => e (h1.trans z))]; exact ⟨h1, h2⟩
theorem KV.put {kvs : List (κ × V)} {vs : List (κ × Value)} (r : KV kvs vs) (k : κ) {y : V} {u : Value} (ry : RelV y u) : KV (putK kvs k y) (stored vs k u) := by
  unfold putK stored
  rw [r.any k]
  by_cases e : (vs.any fun kv => decide (kv.1 = k)) = true
  · rw [if_pos e, if_pos e]; exact r.repl k ry
  · rw [if_neg e, if_neg e]; exact Paired.snoc r ⟨rfl, ry⟩
theorem KV.drop {kvs : List (κ × V)} {vs : List (κ × Value)} (r : KV kvs vs) (k : κ) : KV (dropK kvs k) (without vs k) := by
  unfold KV at r ⊢
  unfold dropK without
  induction r with
  | nil => exact .nil
  | @cons p q ps qs h t ih =>
    obtain ⟨h1, h2⟩ := h
    rw [List.filter_cons, List.filter_cons]
    by_cases e : p.1 = k
    · have a : ¬ decide (p.1 ≠ k) = true := by simp [e]
      have b : ¬ decide (q.1 ≠ k) = true := by simp [h1.symm.trans e]
      rw [if_neg a, if_neg b]; exact ih
    · have e' : ¬ q.1 = k := fun z => e (h1.trans z)
      have a : decide (p.1 ≠ k) = true := by simp [e]
      have b : decide (q.1 ≠ k) = true := by simp [e']
      rw [if_pos a, if_pos b]; exact .cons ⟨h1, h2⟩ ih
theorem KV.keys {kvs : List (κ × V)} {vs : List (κ × Value)} (r : KV kvs vs) : kvs.map (·.1) = vs.map (·.1) := by
  unfold KV at r
  induction r with
  | nil => rfl
  | cons h t ih => rw [List.map_cons, List.map_cons, ih, h.1]
theorem KV.length {kvs : List (κ × V)} {vs : List (κ × Value)} (r : KV kvs vs) : kvs.length = vs.length := Paired.length r
theorem dropK_le (kvs : List (κ × V)) (k : κ) : (dropK kvs k).length ≤ kvs.length := List.length_filter_le _ _
end


/-! ### a tracked dict, its keys ints and texts or tuples of these -/
theorem kV_is {P : Program} {w : World} {k : Key} {u : Value} (r : RelV (kV k) u) : (mixKind P w).is k u = true := by
  cases k with
  | inl i => obtain ⟨t, e⟩ := (show ∃ t, u = Value.int i t from r); subst e; exact mixKind_int P w i t
  | inr x => obtain ⟨t, e⟩ := (show ∃ t, u = Value.str x t from r); subst e; exact mixKind_str P w x t
theorem kV_inj {a b : Key} (e : kV a = kV b) : a = b := by
  cases a with
  | inl i => cases b with
    | inl j => have e' : V.int i = V.int j := e; injection e' with e'; rw [e']
    | inr y => exact nomatch (show V.int i = V.str y from e)
  | inr x => cases b with
    | inl j => exact nomatch (show V.str x = V.int j from e)
    | inr y => have e' : V.str x = V.str y := e; injection e' with e'; rw [e']
theorem kVs_inj : ∀ {a b : List Key}, a.map kV = b.map kV → a = b
  | [], [], _ => rfl
  | [], _ :: _, e => by simp at e
  | _ :: _, [], e => by simp at e
  | x :: xs, y :: ys, e => by
    rw [List.map_cons, List.map_cons] at e
    injection e with e1 e2
    rw [kV_inj e1, kVs_inj e2]
theorem items_are {P : Program} {w : World} : ∀ {ks : List Key} {us : List Value}, Vals (ks.map kV) us → ItemsAre (mixKind P w) ks us
  | [], _, r => by rw [List.map_nil] at r; cases r; exact .nil
  | k :: ks, _, r => by
    rw [List.map_cons] at r
    cases r with
    | cons h t => exact .cons (kV_is h) (items_are t)

/-- raw entries of a dict with tuple keys -/
abbrev KT (H : Hp) : List (List Key × V) → List (List Key × Addr × Value) → Prop := Paired fun p q => p.1 = q.1 ∧ H q.2.1 = some (.tup (p.1.map kV)) ∧ RelV p.2 q.2.2
theorem KT.val {H : Hp} {kvs : List (List Key × V)} {xs : List (List Key × Addr × Value)} (r : KT H kvs xs) (k : List Key) : RelO (valV kvs k) ((atKey xs k).map (·.2)) := by
  induction r with
  | nil => exact True.intro
  | @cons p q ps qs h t ih =>
    obtain ⟨h1, _, h2⟩ := h
    by_cases e : p.1 = k
    · have e' : q.1 = k := h1.symm.trans e
      have b : atKey (q :: qs) k = some q.2 := by simp [atKey, List.find?_cons, e']
      rw [valV_pos e, b]; exact h2
    · have e' : ¬ q.1 = k := fun z => e (h1.trans z)
      have b : atKey (q :: qs) k = atKey qs k := by simp [atKey, List.find?_cons, e']
      rw [valV_neg e, b]; exact ih
theorem KT.repl {H : Hp} {kvs : List (List Key × V)} {xs : List (List Key × Addr × Value)} (r : KT H kvs xs) (k : List Key) {y : V} {u : Value} (ry : RelV y u) :
    KT H (kvs.map fun kv => if kv.1 = k then (kv.1, y) else kv) (xs.map (putAt k u)) := by
  induction r with
  | nil => exact .nil
  | @cons p q ps qs h t ih =>
    rw [List.map_cons, List.map_cons]
    refine .cons ?_ ih
    obtain ⟨h1, h2, h3⟩ := h
    unfold putAt
    by_cases e : p.1 = k
    · rw [if_pos e, if_pos (h1.symm.trans e)]; exact ⟨h1, h2, ry⟩
    · rw [if_neg e, if_neg (fun z => e (h1.trans z))]; exact ⟨h1, h2, h3⟩
theorem KT.put {H : Hp} {kvs : List (List Key × V)} {xs : List (List Key × Addr × Value)} (r : KT H kvs xs) (k : List Key) {b : Addr} {y : V} {u : Value} (hb : H b = some (.tup (k.map kV))) (ry : RelV y u) :
    KT H (putK kvs k y) (storedH xs k b u) := by
  have e : (kvs.any fun kv => decide (kv.1 = k)) = (atKey xs k).isSome := by
    rw [valV_any, (r.val k).isSome_eq, Option.isSome_map]
  unfold putK storedH
  rw [e]
  by_cases q : (atKey xs k).isSome = true
  · rw [if_pos q, if_pos q]; exact r.repl k ry
  · rw [if_neg q, if_neg q]; exact Paired.snoc r ⟨rfl, hb, ry⟩
theorem KT.keeps {H H' : Hp} {kvs : List (List Key × V)} {xs : List (List Key × Addr × Value)} (r : KT H kvs xs) (ht : ∀ b ys, H b = some (.tup ys) → H' b = some (.tup ys)) : KT H' kvs xs :=
  Paired.mapP r fun _ _ z => ⟨z.1, ht _ _ z.2.1, z.2.2⟩

section
variable {P : Program} {w : World} {H : Hp} {h : Heap} {a : Addr}
theorem rd_of {u : HO} (ok : HOk P w H h) (e : Rd H a u) : ObjOk P w H h a u := e.ok ok
theorem dk_rd {kvs : List (Key × V)} (ok : HOk P w H h) (e : Rd H a (.dK kvs)) : kvs.length ≤ sizeLine ∧ (a == sysModules) = false ∧ ∃ vs, KV kvs vs ∧ h.DictOf (mixKind P w) a vs :=
  show ObjOk P w H h a (.dK kvs) from rd_of ok e
theorem dk_of {kvs : List (Key × V)} (ok : HOk P w H h) (e : H a = some (.dK kvs)) : kvs.length ≤ sizeLine ∧ (a == sysModules) = false ∧ ∃ vs, KV kvs vs ∧ h.DictOf (mixKind P w) a vs := dk_rd ok (.inl e)
/-- a tracked tuple of ints and texts is a key -/
theorem key_of {ks : List Key} (ok : HOk P w H h) (e : H a = some (.tup (ks.map kV))) : (tupleKind (mixKind P w)).is h ks a := by
  obtain ⟨_, its, r, o, h1, h2, n, h3⟩ := (show ObjOk P w H h a (.tup (ks.map kV)) from ok a _ e)
  exact ⟨o, its.toArray, n, h1, h2, h3, by simpa using items_are r⟩
theorem dt_rd {kvs : List (List Key × V)} (ok : HOk P w H h) (e : Rd H a (.dT kvs)) : kvs.length ≤ sizeLine ∧ (a == sysModules) = false ∧
    ∃ xs, KT H kvs xs ∧ h.DictOfH (tupleKind (mixKind P w)) a xs := by
  obtain ⟨z, y, xs, r, o, es, ep, h1, h2, h3, h4, h5⟩ := (show ObjOk P w H h a (.dT kvs) from rd_of ok e)
  refine ⟨z, y, xs, r, o, es, ep, h1, h2, h3, h4, fun x hx => ?_, h5⟩
  have all : ∀ {l : List (List Key × V)} {m : List (List Key × Addr × Value)}, KT H l m → ∀ x ∈ m, (tupleKind (mixKind P w)).is h x.1 x.2.1 := by
    intro l m q
    induction q with
    | nil => intro x hx; exact nomatch hx
    | @cons p q ps qs hq t ih =>
      intro x hx
      rcases List.mem_cons.mp hx with e | hx
      · subst e
        exact key_of ok (by rw [← hq.1]; exact hq.2.1)
      · exact ih x hx
  exact all r x hx
theorem dt_of {kvs : List (List Key × V)} (ok : HOk P w H h) (e : H a = some (.dT kvs)) : kvs.length ≤ sizeLine ∧ (a == sysModules) = false ∧
    ∃ xs, KT H kvs xs ∧ h.DictOfH (tupleKind (mixKind P w)) a xs := dt_rd ok (.inl e)
end

/-- what the dict at a holds at the key y -/
def DGet (H : Hp) (a : Addr) (y : V) (r : Option V) : Prop :=
  (∃ kvs k, Rd H a (.dK kvs) ∧ y = kV k ∧ r = valV kvs k) ∨ ∃ kvs k b, Rd H a (.dT kvs) ∧ y = .ref b ∧ H b = some (.tup (k.map kV)) ∧ r = valV kvs k
/-- the heap behind a[y] = v -/
def DPut (H : Hp) (a : Addr) (y v : V) (H' : Hp) : Prop :=
  (∃ kvs k, H a = some (.dK kvs) ∧ y = kV k ∧ kvs.length < sizeLine ∧ H' = upd H a (.dK (putK kvs k v))) ∨
  ∃ kvs k b, H a = some (.dT kvs) ∧ y = .ref b ∧ H b = some (.tup (k.map kV)) ∧ kvs.length < sizeLine ∧ H' = upd H a (.dT (putK kvs k v))
theorem DGet.k {H : Hp} {a : Addr} {kvs : List (Key × V)} {k : Key} (e : H a = some (.dK kvs)) : DGet H a (kV k) (valV kvs k) := .inl ⟨kvs, k, .inl e, rfl, rfl⟩
theorem DGet.t {H : Hp} {a b : Addr} {kvs : List (List Key × V)} {k : List Key} (e : H a = some (.dT kvs)) (eb : H b = some (.tup (k.map kV))) : DGet H a (.ref b) (valV kvs k) := .inr ⟨kvs, k, b, .inl e, rfl, eb, rfl⟩
theorem DPut.k {H : Hp} {a : Addr} {kvs : List (Key × V)} {k : Key} {v : V} (e : H a = some (.dK kvs)) (hl : kvs.length < sizeLine) : DPut H a (kV k) v (upd H a (.dK (putK kvs k v))) := .inl ⟨kvs, k, e, rfl, hl, rfl⟩
theorem DPut.t {H : Hp} {a b : Addr} {kvs : List (List Key × V)} {k : List Key} {v : V} (e : H a = some (.dT kvs)) (eb : H b = some (.tup (k.map kV))) (hl : kvs.length < sizeLine) :
    DPut H a (.ref b) v (upd H a (.dT (putK kvs k v))) := .inr ⟨kvs, k, b, e, rfl, eb, hl, rfl⟩


section
variable {X : Cx} {pins : List (Addr × Obj)} {σ : St} {H : Hp} {s : Shared} {a : Addr} {y v : V} {u r : Value} {o : Option V} {A : Around} {E : Value → Shared → Prop}

theorem Inv.big (I : Inv X pins σ H s) : sysModules < s.heap.objs.size := by
  have h : mainGlobals < s.heap.objs.size := (I.mod.glob.keeps I.bk).lt
  exact Nat.lt_trans (by decide) h

/-- d[y], there -/
theorem d_getItem {Q : Value → Shared → Prop} (hu : A.units + 1 < cLine) (I : Inv X pins σ H s) (g : DGet H a y (some v)) (ry : RelV y u) (h : ∀ w' s', Inv X pins σ H s' → RelV v w' → Q w' s') :
    wpAny (model X.prog X.w) A (getItem (.ref a) u) Q E s := by
  rcases g with ⟨kvs, k, e, ey, l⟩ | ⟨kvs, k, b, e, ey, eb, l⟩
  · subst ey
    obtain ⟨z, hd, vs, rel, dd⟩ := dk_rd I.hok e
    obtain ⟨w', hw, rw'⟩ := RelO.some_of (v := v) (o := valueAt vs k) (by rw [l]; exact rel.val k)
    exact wpAny_getItem_of (kV_is ry) dd.mapOf hw (h w' _ (I.tok _) rw')
  · subst ey
    cases (show u = Value.ref b from ry)
    obtain ⟨z, hd, xs, rel, dd⟩ := dt_rd I.hok e
    obtain ⟨w', hw, rw'⟩ := RelO.some_of (v := v) (o := (atKey xs k).map (·.2)) (by rw [l]; exact rel.val k)
    obtain ⟨p, hp, hp2⟩ := Option.map_eq_some_iff.mp hw
    refine wpAny_getItem_heap (tupleKind_room_in1 hu) (key_of I.hok eb) dd hp ?_
    rw [hp2]
    exact h w' _ (I.tok _) rw'
/-- y in d -/
theorem d_in {Q : Value → Shared → Prop} (hu : A.units + 1 < cLine) (I : Inv X pins σ H s) (g : DGet H a y o) (ry : RelV y u) (h : ∀ s', Inv X pins σ H s' → Q (.bool o.isSome) s') :
    wpAny (model X.prog X.w) A (compareOp .In u (.ref a)) Q E s := by
  rcases g with ⟨kvs, k, e, ey, l⟩ | ⟨kvs, k, b, e, ey, eb, l⟩
  · subst ey
    obtain ⟨z, hd, vs, rel, dd⟩ := dk_rd I.hok e
    refine wpAny_in_of (kV_is ry) hd dd.mapOf ?_
    rw [← (rel.val k).isSome_eq, ← l]
    exact h _ (I.tok _)
  · subst ey
    cases (show u = Value.ref b from ry)
    obtain ⟨z, hd, xs, rel, dd⟩ := dt_rd I.hok e
    refine wpAny_in_heap (tupleKind_room_in1 hu) (key_of I.hok eb) hd dd ?_
    have q := (rel.val k).isSome_eq
    rw [Option.isSome_map] at q
    rw [← q, ← l]
    exact h _ (I.tok _)
theorem d_notIn {Q : Value → Shared → Prop} (hu : A.units + 1 < cLine) (I : Inv X pins σ H s) (g : DGet H a y o) (ry : RelV y u) (h : ∀ s', Inv X pins σ H s' → Q (.bool (!o.isSome)) s') :
    wpAny (model X.prog X.w) A (compareOp .NotIn u (.ref a)) Q E s := by
  rcases g with ⟨kvs, k, e, ey, l⟩ | ⟨kvs, k, b, e, ey, eb, l⟩
  · subst ey
    obtain ⟨z, hd, vs, rel, dd⟩ := dk_rd I.hok e
    refine wpAny_notIn_of (kV_is ry) hd dd.mapOf ?_
    rw [← (rel.val k).isSome_eq, ← l]
    exact h _ (I.tok _)
  · subst ey
    cases (show u = Value.ref b from ry)
    obtain ⟨z, hd, xs, rel, dd⟩ := dt_rd I.hok e
    refine wpAny_notIn_heap (tupleKind_room_in1 hu) (key_of I.hok eb) hd dd ?_
    have q := (rel.val k).isSome_eq
    rw [Option.isSome_map] at q
    rw [← q, ← l]
    exact h _ (I.tok _)
/-- a dict's object is replaced -/
theorem d_write {h' : Heap} {t' : Nat} {ob : HO} (I : Inv X pins σ H s) (mu : Mut (H a)) (hs : Heap.SameBut a s.heap h') (he : ∃ q, h'.get? a = some q) (new : ObjOk X.prog X.w (upd H a ob) h' a ob) :
    Inv X pins σ (upd H a ob) { s with heap := h', toks := t' } :=
  I.write (x := a) (e := a) mu (.inl rfl) (fun b q hb z => (hs.2 b hb).trans z) he new
theorem dk_new {P : Program} {w : World} {H' : Hp} {h' : Heap} {kvs : List (Key × V)} {vs : List (Key × Value)} (z : kvs.length ≤ sizeLine) (hd : (a == sysModules) = false) (rel : KV kvs vs) (dd : h'.DictOf (mixKind P w) a vs) :
    ObjOk P w H' h' a (.dK kvs) := ⟨z, hd, vs, rel, dd⟩
/-- d[y] = v -/
theorem d_setItem {H' : Hp} {Q : Unit → Shared → Prop} (hu : A.units + 1 < cLine) (I : Inv X pins σ H s) (g : DPut H a y v H') (ry : RelV y u) (rv : RelV v r) (h : ∀ s', Inv X pins σ H' s' → Q () s') :
    wpAny (model X.prog X.w) A (setItem (.ref a) u r) Q E s := by
  rcases g with ⟨kvs, k, e, ey, l, eH⟩ | ⟨kvs, k, b, e, ey, eb, l, eH⟩
  · subst ey eH
    obtain ⟨z, hd, vs, rel, dd⟩ := dk_of I.hok e
    have hz : vs.length ≤ sizeLine := by rw [← rel.length]; exact z
    have hl : (putK kvs k v).length ≤ sizeLine := by have := length_putK kvs k v; omega
    refine wpAny_setItem_pairs (hsz := hz) (kV_is ry) dd fun h' dd' hs => h _ ?_
    have he : ∃ q, h'.get? a = some q := let ⟨q, _, _, hq, _⟩ := dd'; ⟨q, hq⟩
    exact d_write I (by rw [e]; exact True.intro) hs he (dk_new hl hd (rel.put k rv) dd')
  · subst ey eH
    cases (show u = Value.ref b from ry)
    obtain ⟨z, hd, xs, rel, dd⟩ := dt_of I.hok e
    have hz : xs.length ≤ sizeLine := by rw [← Paired.length rel]; exact z
    have hl : (putK kvs k v).length ≤ sizeLine := by have := length_putK kvs k v; omega
    refine wpAny_setItem_heap (hsz := hz) (tupleKind_room_in1 hu) (key_of I.hok eb) dd fun h' dd' hs => h _ ?_
    obtain ⟨q, es, ep, hq, h2, h3, h4, _, h5⟩ := dd'
    refine d_write I (by rw [e]; exact True.intro) hs ⟨q, hq⟩ ⟨hl, hd, _, (rel.put k eb rv).keeps fun c ys ec => ?_, q, es, ep, hq, h2, h3, h4, h5⟩
    rw [upd_ne (ne_of ec e (fun z => nomatch z))]
    exact ec
end

section
variable {X : Cx} {pins : List (Addr × Obj)} {σ : St} {H : Hp} {s : Shared} {a : Addr} {kvs : List (Key × V)} {k : Key} {u : Value} {A : Around} {E : Value → Shared → Prop}
/-- del d[k] -/
theorem d_delItem {Q : Unit → Shared → Prop} (I : Inv X pins σ H s) (e : H a = some (.dK kvs)) (ry : RelV (kV k) u) (l : (valV kvs k).isSome = true) (h : ∀ s', Inv X pins σ (upd H a (.dK (dropK kvs k))) s' → Q () s') :
    wpAny (model X.prog X.w) A (delItem (.ref a) u) Q E s := by
  obtain ⟨z, hd, vs, rel, dd⟩ := dk_of I.hok e
  refine wpAny_delItem_slot dd.typeIs (by decide) PySem.F.slot_dict_delitem
    (call_meetsIn PySem.F.slot_dict_delitem dd.typeIs PySem.F.entry_dict_delitem (PySem.F.args_dict_delitem_2 _ _) (meets_dict_delitem_pairs (mixKind X.prog X.w) a (kV_is ry)) ⟨vs, dd, by rw [← rel.length]; exact z, by rw [← (rel.val k).isSome_eq]; exact l, fun h' dd' hs => h _ ?_⟩)
  have he : ∃ q, h'.get? a = some q := let ⟨q, _, _, hq, _⟩ := dd'; ⟨q, hq⟩
  exact d_write I (by rw [e]; exact True.intro) hs he (dk_new (Nat.le_trans (dropK_le kvs k) z) hd (rel.drop k) dd')
/-- d.pop(k[, x]), there -/
theorem d_pop {v : V} {more : List Value} {Q : Value → Shared → Prop} (I : Inv X pins σ H s) (e : H a = some (.dK kvs)) (ry : RelV (kV k) u) (l : valV kvs k = some v) (hm : more = [] ∨ ∃ x, more = [x])
    (h : ∀ w' s', Inv X pins σ (upd H a (.dK (dropK kvs k))) s' → RelV v w' → Q w' s') : wpAny (model X.prog X.w) A (call (.builtin "dict.pop") (.ref a :: u :: more)) Q E s := by
  obtain ⟨z, hd, vs, rel, dd⟩ := dk_of I.hok e
  obtain ⟨w', hw, rw'⟩ := RelO.some_of (v := v) (o := valueAt vs k) (by rw [← l]; exact rel.val k)
  have hp : (keyPart u).isSome = true := by
    cases k with
    | inl i => obtain ⟨t, q⟩ := (show ∃ t, u = Value.int i t from ry); subst q; rfl
    | inr x => obtain ⟨t, q⟩ := (show ∃ t, u = Value.str x t from ry); subst q; rfl
  have ha : argsOk "dict.pop" ⟨.ref a :: u :: more, []⟩ := by
    rcases hm with q | ⟨x, q⟩
    · subst q; exact PySem.F.args_dict_pop_2 _ _
    · subst q; exact PySem.F.args_dict_pop_3 _ _ _
  refine call_meetsIn PySem.F.slot_dict_pop dd.typeIs PySem.F.entry_dict_pop ha (meets_dict_pop_there (mixKind X.prog X.w) a (kV_is ry) more hm hp)
    ⟨vs, w', dd, by rw [← rel.length]; exact z, hw, fun h' dd' hs => h w' _ ?_ rw'⟩
  have he : ∃ q, h'.get? a = some q := let ⟨q, _, _, hq, _⟩ := dd'; ⟨q, hq⟩
  exact d_write I (by rw [e]; exact True.intro) hs he (dk_new (Nat.le_trans (dropK_le kvs k) z) hd (rel.drop k) dd')
/-- d.pop(k, x), not there -/
theorem d_popD {r : Value} {Q : Value → Shared → Prop} (I : Inv X pins σ H s) (e : H a = some (.dK kvs)) (ry : RelV (kV k) u) (l : valV kvs k = none) (h : ∀ s', Inv X pins σ H s' → Q r s') :
    wpAny (model X.prog X.w) A (call (.builtin "dict.pop") [.ref a, u, r]) Q E s := by
  obtain ⟨z, hd, vs, rel, dd⟩ := dk_of I.hok e
  have hn : valueAt vs k = none := RelO.none_of (by rw [← l]; exact rel.val k)
  have hp : (keyPart u).isSome = true := by
    cases k with
    | inl i => obtain ⟨t, q⟩ := (show ∃ t, u = Value.int i t from ry); subst q; rfl
    | inr x => obtain ⟨t, q⟩ := (show ∃ t, u = Value.str x t from ry); subst q; rfl
  exact call_meetsIn PySem.F.slot_dict_pop dd.typeIs PySem.F.entry_dict_pop (PySem.F.args_dict_pop_3 _ _ _) (meets_dict_pop_default (mixKind X.prog X.w) a (kV_is ry) hd hp r) ⟨vs, dd, hn, h _ (I.tok _)⟩
/-- d.clear() -/
theorem d_clear {Q : Value → Shared → Prop} (I : Inv X pins σ H s) (e : H a = some (.dK kvs)) (h : ∀ s', Inv X pins σ (upd H a (.dK [])) s' → Q .none s') : wpAny (model X.prog X.w) A (call (.builtin "dict.clear") [.ref a]) Q E s := by
  obtain ⟨z, hd, vs, rel, dd⟩ := dk_of I.hok e
  refine call_meetsIn PySem.F.slot_dict_clear dd.typeIs PySem.F.entry_dict_clear (PySem.F.args_dict_clear_1 _) (meets_dict_clear (mixKind X.prog X.w) a) ⟨vs, dd, by rw [← rel.length]; exact z, fun h' dd' hs => h _ ?_⟩
  have he : ∃ q, h'.get? a = some q := let ⟨q, _, _, hq, _⟩ := dd'; ⟨q, hq⟩
  exact d_write (t' := s.toks) I (by rw [e]; exact True.intro) hs he (dk_new (Nat.zero_le _) hd .nil dd')
/-- len(d) -/
theorem d_len {Q : Value → Shared → Prop} (I : Inv X pins σ H s) (e : Rd H a (.dK kvs)) (h : ∀ t s', Inv X pins σ H s' → Q (.int kvs.length t) s') : wpAny (model X.prog X.w) A (call (.builtin "len") [.ref a]) Q E s := by
  obtain ⟨z, hd, vs, rel, dd⟩ := dk_rd I.hok e
  refine call_len_dict hd dd (by rw [← rel.length]; rw [sizeLine_eq] at z; omega) ?_
  rw [← rel.length]
  exact h _ _ (I.tok _)
/-- if d -/
theorem d_truth {Q : Bool → Shared → Prop} (I : Inv X pins σ H s) (e : Rd H a (.dK kvs)) (h : ∀ s', Inv X pins σ H s' → Q (!kvs.isEmpty) s') : wpAny (model X.prog X.w) A (truthy (.ref a)) Q E s := by
  obtain ⟨z, hd, vs, rel, dd⟩ := dk_rd I.hok e
  refine wpAny_truthy_dict hd dd (by rw [← rel.length]; rw [sizeLine_eq] at z; omega) ?_
  have q : kvs.isEmpty = vs.isEmpty := by cases rel <;> rfl
  rw [← q]
  exact h _ (I.tok _)
end


/-! ### readings and rules -/
/-- the element of a subscription, not a slice -/
def NoSl (i : Expr) : Prop := ∀ ov iv, subscripted i false ov iv = operate [ov, iv] (getItem ov iv)
theorem subD_of {prog : Program} {w : World} {A : Around} {E : Value → Shared → Prop} {s : Shared} {env : Env} {value slice : Expr} {pos : Pos} {T id : String} {Q : Value → Shared → Prop}
    (hl : typeLookup (.type T) "__getitem__" = pure (some (.builtin id))) (hs : NoSl slice)
    (h : wpAny (model prog w) A (eval value env) (fun o s₁ => wpAny (model prog w) A (eval slice env) (fun i s₂ => s₂.TypeIs o T ∧ wpAny (model prog w) A (getItem o i) Q E s₂) E s₁) E s) :
    wpAny (model prog w) A (eval (.Subscript value slice pos) env) Q E s := by
  refine Subscript_ (wpAny_mono h (fun o s₁ h₁ => wpAny_mono h₁ (fun i s₂ h₂ => ?_) fun _ _ x => x) fun _ _ x => x)
  obtain ⟨hT, h₂⟩ := h₂
  unfold subscriptTail
  refine wpAny_bind ?_
  rw [getitemInPython_of_ne hT.not_modules]
  refine wpAny_bind (wpAny_specialOf hT hl ?_)
  have fin : wpAny (model prog w) A (subscripted slice false o i) (fun r s₃ => wpAny (model prog w) A (letTemporaryGo value o r >>= fun _ => pure r) Q E s₃) E s₂ := by
    rw [hs o i]
    exact wpAny_operating (wpAny_mono h₂ (fun r s₃ h₃ => wpAny_bind (wpAny_letTemporaryGo (wpAny_pure h₃))) fun _ _ x => x)
  first
    | exact wpAny_pure (wpAny_bind fin)
    | exact wpAny_bind (wpAny_pure (wpAny_bind fin))
    | exact wpAny_bind fin

theorem dict_typeIs {X : Cx} {pins : List (Addr × Obj)} {σ : St} {H : Hp} {s : Shared} {a : Addr} {y : V} {o : Option V} (I : Inv X pins σ H s) (g : DGet H a y o) : s.TypeIs (.ref a) "dict" := by
  rcases g with ⟨kvs, k, e, _, _⟩ | ⟨kvs, k, b, e, _, _, _⟩
  · obtain ⟨_, _, vs, _, dd⟩ := dk_rd I.hok e
    exact dd.typeIs
  · obtain ⟨_, _, xs, _, dd⟩ := dt_rd I.hok e
    exact dd.typeIs
theorem dict_noDict {X : Cx} {pins : List (Addr × Obj)} {σ : St} {H : Hp} {s : Shared} {a : Addr} {y : V} {o : Option V} (I : Inv X pins σ H s) (g : DGet H a y o) :
    ∀ b, Value.ref a = .ref b → ∃ ob, s.heap.get? b = some ob ∧ ob.dict = none := fun b q => by
  cases q
  rcases g with ⟨kvs, k, e, _, _⟩ | ⟨kvs, k, b, e, _, _, _⟩
  · obtain ⟨_, _, vs, _, ob, _, _, h1, h2, _⟩ := dk_rd I.hok e
    exact ⟨ob, h1, h2.2.1⟩
  · obtain ⟨_, _, xs, _, ob, _, _, h1, h2, _⟩ := dt_rd I.hok e
    exact ⟨ob, h1, h2.2.1⟩

/-- d[y] -/
def tDGet (td ty : TE) : TE := fun σ H Q => td σ H fun x H1 => ty σ H1 fun y H2 => ∃ a v, x = .ref a ∧ DGet H2 a y (some v) ∧ Q v H2
/-- y in d, y not in d -/
def tDIn (ty td : TE) : TE := fun σ H Q => ty σ H fun y H1 => td σ H1 fun x H2 => ∃ a o, x = .ref a ∧ DGet H2 a y o ∧ Q (.bl o.isSome) H2
def tDNotIn (ty td : TE) : TE := fun σ H Q => ty σ H fun y H1 => td σ H1 fun x H2 => ∃ a o, x = .ref a ∧ DGet H2 a y o ∧ Q (.bl (!o.isSome)) H2
/-- d[y] = v -/
def sDPut (td ty tv : TE) : TS := fun D σ H => tv σ H fun v H1 => td σ H1 fun x H2 => ty σ H2 fun y H3 => ∃ a H4, x = .ref a ∧ DPut H3 a y v H4 ∧ D.nx σ H4
/-- d[y] op= v -/
def sDAug (td ty tv : TE) (rd : V → V → Hp → VK → Prop) : TS := fun D σ H => td σ H fun x H1 => ty σ H1 fun y H2 => ∃ a v, x = .ref a ∧ DGet H2 a y (some v) ∧
  tv σ H2 fun y2 H3 => rd v y2 H3 fun z H4 => ∃ H5, DPut H4 a y z H5 ∧ D.nx σ H5
/-- del d[y] -/
def sDDel (td ty : TE) : TS := fun D σ H => td σ H fun x H1 => ty σ H1 fun y H2 => ∃ a kvs k, x = .ref a ∧ H2 a = some (.dK kvs) ∧ y = kV k ∧ (valV kvs k).isSome = true ∧ D.nx σ (upd H2 a (.dK (dropK kvs k)))

section
variable {X : Cx} {o i e value : Expr} {pos pos' tpos : Pos} {td ty tv : TE}
theorem pe_dget (hu : X.A.units + 1 < cLine) (ho : PE X o td) (hi : PE X i ty) (hs : NoSl i) : PE X (.Subscript o i pos) (tDGet td ty) := by
  intro pins s σ H Q I h
  refine subD_of PySem.F.slot_dict_getitem.lookup hs (thn (ho pins s σ H _ I h) fun u s1 ⟨x, H1, I1, rx, q1⟩ => thn (hi pins s1 σ H1 _ I1 q1) fun iv s2 ⟨y, H2, I2, ry, a, v, ex, g, q2⟩ => ?_)
  subst ex
  obtain rfl : u = Value.ref a := rx
  exact ⟨dict_typeIs I2 g, d_getItem hu I2 g ry fun w' s3 I3 rw' => ⟨v, H2, I3, rw', q2⟩⟩
theorem pc_din (hu : X.A.units + 1 < cLine) (hi : PE X i ty) (ho : PE X o td) : PC X .In i o (tDIn ty td) := by
  intro pins s σ H Q I h
  refine thn (hi pins s σ H _ I h) fun iv s1 ⟨y, H1, I1, ry, q1⟩ => thn (ho pins s1 σ H1 _ I1 q1) fun u s2 ⟨x, H2, I2, rx, a, ov, ex, g, q2⟩ => ?_
  subst ex
  obtain rfl : u = Value.ref a := rx
  exact d_in hu I2 g ry fun s3 I3 => ⟨.bl ov.isSome, H2, I3, rfl, q2⟩
theorem pc_dnotin (hu : X.A.units + 1 < cLine) (hi : PE X i ty) (ho : PE X o td) : PC X .NotIn i o (tDNotIn ty td) := by
  intro pins s σ H Q I h
  refine thn (hi pins s σ H _ I h) fun iv s1 ⟨y, H1, I1, ry, q1⟩ => thn (ho pins s1 σ H1 _ I1 q1) fun u s2 ⟨x, H2, I2, rx, a, ov, ex, g, q2⟩ => ?_
  subst ex
  obtain rfl : u = Value.ref a := rx
  exact d_notIn hu I2 g ry fun s3 I3 => ⟨.bl (!ov.isSome), H2, I3, rfl, q2⟩
theorem ps_dput (hu : X.A.units + 1 < cLine) (ho : PE X o td) (hi : PE X i ty) (hv : PE X value tv) (hs : swapsWith value (some (.Subscript o i pos')) pos.line X.env = pure false) :
    PS X (.Assign [.Subscript o i pos'] value pos) (sDPut td ty tv) := by
  intro pins s σ H D I h
  refine wpAny_Assign_Subscript (thn (hv pins s σ H _ I h) fun r s1 ⟨v, H1, I1, rv, q1⟩ => thn (ho pins s1 σ H1 _ I1 q1) fun u s2 ⟨x, H2, I2, rx, q2⟩ => thn (hi pins s2 σ H2 _ I2 q2) fun iv s3 ⟨y, H3, I3, ry, a, H4, ex, g, q3⟩ => ?_) hs
  subst ex
  obtain rfl : u = Value.ref a := rx
  exact d_setItem hu I3 g ry rv fun s4 I4 => ⟨σ, H4, I4, q3⟩
theorem ps_daug {op : Operator} {rd : V → V → Hp → VK → Prop} (hu : X.A.units + 1 < cLine) (ho : PE X o td) (hi : PE X i ty) (hv : PE X value tv) (hop : InOp X op rd)
    (ha : ∀ ov iv new, augStore i ov iv new = (do holding [new, ov, iv] (setItem ov iv new); release [new, ov, iv] []; pure .next)) : PS X (.AugAssign (.Subscript o i tpos) op value pos) (sDAug td ty tv rd) := by
  intro pins s σ H D I h
  refine wpAny_AugAssign_SubscriptAny (thn (ho pins s σ H _ I h) fun u s1 ⟨x, H1, I1, rx, q1⟩ => thn (hi pins s1 σ H1 _ I1 q1) fun iv s2 ⟨y, H2, I2, ry, a, v, ex, g, q2⟩ => ?_) ha
  subst ex
  obtain rfl : u = Value.ref a := rx
  refine d_getItem hu I2 g ry fun w' s3 I3 rw' => thn (hv pins s3 σ H2 _ I3 q2) fun w2 s4 ⟨y2, H3, I4, ry2, q3⟩ => thn (hop pins s4 σ H3 v y2 w' w2 _ I4 rw' ry2 q3) fun w3 s5 ⟨z, H4, I5, rz, H5, g5, q4⟩ => ?_
  exact d_setItem hu I5 g5 ry rz fun s6 I6 => ⟨σ, H5, I6, q4⟩
theorem ps_ddel (ho : PE X o td) (hi : PE X i ty) : PS X (.Delete [.Subscript o i tpos] pos) (sDDel td ty) := by
  intro pins s σ H D I h
  refine wpAny_Delete (wpAny_deleteEach_cons (wpAny_delete_Subscript (thn (ho pins s σ H _ I h) fun u s1 ⟨x, H1, I1, rx, q1⟩ => thn (hi pins s1 σ H1 _ I1 q1) fun iv s2 ⟨y, H2, I2, ry, a, kvs, k, ex, e, ey, l, q2⟩ => ?_)))
  subst ex ey
  obtain rfl : u = Value.ref a := rx
  exact d_delItem I2 e ry l fun s3 I3 => wpAny_deleteEach_nil ⟨σ, _, I3, q2⟩
end


/-! ### displays -/
theorem dk_empty {P : Program} {w : World} {H : Hp} (h : Heap) (hb : sysModules < h.objs.size) : ObjOk P w H (h.push { cls := .type "dict", data := .dict #[] }) h.objs.size (.dK []) :=
  ⟨Nat.zero_le _, beq_eq_false_iff_ne.mpr (Ne.symm (Nat.ne_of_lt hb)), [], .nil, Heap.DictOf.new h⟩
theorem dt_empty {P : Program} {w : World} {H : Hp} (h : Heap) (hb : sysModules < h.objs.size) : ObjOk P w H (h.push { cls := .type "dict", data := .dict #[] }) h.objs.size (.dT []) :=
  ⟨Nat.zero_le _, beq_eq_false_iff_ne.mpr (Ne.symm (Nat.ne_of_lt hb)), [], .nil, _, #[], 0, Heap.get?_push_size _ rfl, ⟨rfl, rfl, rfl⟩, rfl, rfl, List.nodup_nil⟩
/-- {}, to be a dict of the kind that is wanted -/
def tDNewK : TE := fun _ H Q => ∀ p, H p = none → Q (.ref p) (upd H p (.dK []))
def tDNewT : TE := fun _ H Q => ∀ p, H p = none → Q (.ref p) (upd H p (.dT []))
section
variable {X : Cx} {pos : Pos}
theorem pe_dnewK : PE X (.Dict [] [] pos) tDNewK := fun pins s σ H Q I h =>
  wpAny_Dict_empty ⟨.ref s.heap.objs.size, _, I.laid (a := s.heap.objs.size) (o := .dK []) (t' := s.toks) (fun _ _ q => Heap.get?_push_of_some _ q) (Nat.le_refl _) (dk_empty s.heap I.big), rfl, h _ (I.hok.fresh (Nat.le_refl _))⟩
theorem pe_dnewT : PE X (.Dict [] [] pos) tDNewT := fun pins s σ H Q I h =>
  wpAny_Dict_empty ⟨.ref s.heap.objs.size, _, I.laid (a := s.heap.objs.size) (o := .dT []) (t' := s.toks) (fun _ _ q => Heap.get?_push_of_some _ q) (Nat.le_refl _) (dt_empty s.heap I.big), rfl, h _ (I.hok.fresh (Nat.le_refl _))⟩
end

/-- the pairs of a display, from the left -/
def tPairs : List (TE × TE) → St → Hp → (List (V × V) → Hp → Prop) → Prop
  | [], _, H, Q => Q [] H
  | (tk, tv) :: r, σ, H, Q => tk σ H fun x H1 => tv σ H1 fun y H2 => tPairs r σ H2 fun ps H3 => Q ((x, y) :: ps) H3
abbrev VV : List (V × V) → List (Value × Value) → Prop := Paired fun p q => RelV p.1 q.1 ∧ RelV p.2 q.2
def PPs (X : Cx) (pos : Pos) (keys : List (Option Expr)) (values : List Expr) (trs : List (TE × TE)) : Prop :=
  ∀ (pins : List (Addr × Obj)) (s : Shared) (σ : St) (H : Hp) (Q : List (V × V) → Hp → Prop), Inv X pins σ H s → tPairs trs σ H Q →
    wpAny (model X.prog X.w) X.A (evalPairs (pairTrees keys values X.env pos)) (fun vs s' => ∃ ps H', Inv X pins σ H' s' ∧ VV ps vs ∧ Q ps H') X.xe s
theorem pps_nil {X : Cx} {pos : Pos} : PPs X pos [] [] [] := fun pins s σ H Q I h => pairTrees_nil_walk ⟨[], H, I, .nil, h⟩
theorem pps_cons {X : Cx} {pos : Pos} {k v : Expr} {ks : List (Option Expr)} {vs : List Expr} {tk tv : TE} {trs : List (TE × TE)} (hk : PE X k tk) (hv : PE X v tv) (hr : PPs X pos ks vs trs) :
    PPs X pos (some k :: ks) (v :: vs) ((tk, tv) :: trs) := fun pins s σ H Q I h =>
  pairTrees_cons_walk (thn (hk pins s σ H _ I h) fun u s1 ⟨x, H1, I1, rx, q1⟩ => thn (hv pins s1 σ H1 _ I1 q1) fun w2 s2 ⟨y, H2, I2, ry, q2⟩ =>
    thn (hr pins s2 σ H2 _ I2 q2) fun ws s3 ⟨ps, H3, I3, rel, q3⟩ => ⟨(x, y) :: ps, H3, I3, .cons ⟨rx, ry⟩ rel, q3⟩)

def mergeK (kvs more : List (Key × V)) : List (Key × V) := more.foldl (fun acc kv => putK acc kv.1 kv.2) kvs
theorem KV.merge : ∀ {more : List (Key × V)} {rs : List (Key × Value)} {kvs : List (Key × V)} {vs : List (Key × Value)}, KV more rs → KV kvs vs → KV (mergeK kvs more) (merged vs rs) := by
  intro more rs kvs vs r
  unfold KV at r
  induction r generalizing kvs vs with
  | nil => intro q; exact q
  | @cons p q ps qs h t ih =>
    intro r0
    have e : KV (putK kvs p.1 p.2) (stored vs q.1 q.2) := by
      have := r0.put p.1 h.2
      rw [← h.1]; exact this
    exact ih e
theorem length_mergeK : ∀ (more kvs : List (Key × V)), (mergeK kvs more).length ≤ kvs.length + more.length
  | [], kvs => by show kvs.length ≤ kvs.length + 0; omega
  | p :: r, kvs => by
    have h1 := length_mergeK r (putK kvs p.1 p.2)
    have h2 := length_putK kvs p.1 p.2
    show (mergeK (putK kvs p.1 p.2) r).length ≤ _
    rw [List.length_cons]; omega
theorem carries_of {P : Program} {w : World} : ∀ {kvs : List (Key × V)} {ws : List (Value × Value)}, VV (kvs.map fun kv => (kV kv.1, kv.2)) ws → ∃ rs, Carries (mixKind P w) ws rs ∧ KV kvs rs
  | [], _, r => by rw [List.map_nil] at r; cases r; exact ⟨[], True.intro, .nil⟩
  | p :: kvs, _, r => by
    rw [List.map_cons] at r
    cases r with
    | @cons a b as bs h t =>
      obtain ⟨rs, c, q⟩ := carries_of (P := P) (w := w) t
      obtain ⟨b1, b2⟩ := b
      exact ⟨(p.1, b2) :: rs, ⟨kV_is h.1, rfl, c⟩, .cons ⟨rfl, h.2⟩ q⟩
/-- {k: v, ..} with keys ints and texts; the new dict stands empty while the pairs are made -/
def tDisp (trs : List (TE × TE)) : TE := fun σ H Q => ∀ p, H p = none → tPairs trs σ (upd H p (.dK [])) fun ps H2 => H2 p = some (.dK []) ∧ ∃ kvs : List (Key × V), ps = kvs.map (fun kv => (kV kv.1, kv.2)) ∧ kvs.length ≤ 15 ∧ Q (.ref p) (upd H2 p (.dK (mergeK [] kvs)))
theorem pe_disp {X : Cx} {pos : Pos} {keys : List (Option Expr)} {values : List Expr} {trs : List (TE × TE)} (h : PPs X pos keys values trs) (hall : keys.all (·.isSome) = true) (hl : keys.length = values.length) (h0 : keys ≠ [])
    (h15 : keys.length ≤ 15) : PE X (.Dict keys values pos) (tDisp trs) := by
  intro pins s σ H Q I q
  have hn := I.hok.fresh (Nat.le_refl s.heap.objs.size)
  have I1 := I.laid (a := s.heap.objs.size) (o := .dK []) (h' := s.heap.push { cls := .type "dict", data := .dict #[] }) (t' := s.toks) (fun _ _ q => Heap.get?_push_of_some _ q) (Nat.le_refl _) (dk_empty s.heap I.big)
  refine wpAny_Dict_walk (knd := mixKind X.prog X.w) hall hl h0 h15 (thn (h pins _ σ _ _ I1 (q _ hn)) fun ws s2 ⟨ps, H2, I2, rel, e, kvs, ep, lk, q2⟩ => ?_)
  subst ep
  obtain ⟨rs, c, rk⟩ := carries_of (P := X.prog) (w := X.w) rel
  obtain ⟨z, hd, vs0, r0, dd⟩ := dk_of I2.hok e
  cases r0
  refine ⟨rs, c, dd, fun h' dd' hs => ⟨.ref s.heap.objs.size, _, ?_, rfl, q2⟩⟩
  have hz : (mergeK [] kvs).length ≤ sizeLine := by
    have h1 := length_mergeK kvs []
    rw [List.length_nil] at h1
    rw [sizeLine_eq]; omega
  have he : ∃ q, h'.get? s.heap.objs.size = some q := let ⟨q, _, _, hq, _⟩ := dd'; ⟨q, hq⟩
  exact d_write I2 (by rw [e]; exact True.intro) hs he (dk_new hz hd (rk.merge .nil) dd')


/-! ### methods -/
/-- a method call o.m(e) of a built-in, with one argument: what must be seen of the text -/
structure M1 (X : Cx) (o : Expr) (m : Str) (apos : Pos) (e : Expr) (cpos : Pos) : Prop where
  base : attributeBase o m X.env (eval o X.env) = eval o X.env
  few : ((backTo cpos (starEach [e] X.env)).all (fun x => !x.1) && (backToKw cpos (keywordEach [] X.env)).all (fun x => x.1.isSome)
    && decide (([e] : List Expr).length + ([] : List Keyword).length + (if ([] : List Keyword).isEmpty then 0 else 1) < 30)) = true
  line : (apos.endLine == cpos.line) = true
  trees : backTo cpos (starEach [e] X.env) = [(false, eval e X.env)]
structure M2 (X : Cx) (o : Expr) (m : Str) (apos : Pos) (e f : Expr) (cpos : Pos) : Prop where
  base : attributeBase o m X.env (eval o X.env) = eval o X.env
  few : ((backTo cpos (starEach [e, f] X.env)).all (fun x => !x.1) && (backToKw cpos (keywordEach [] X.env)).all (fun x => x.1.isSome)
    && decide (([e, f] : List Expr).length + ([] : List Keyword).length + (if ([] : List Keyword).isEmpty then 0 else 1) < 30)) = true
  line : (apos.endLine == cpos.line) = true
  trees : backTo cpos (starEach [e, f] X.env) = [(false, eval e X.env), (false, eval f X.env)]

/-- a is a dict, whatever its keys -/
def IsD (H : Hp) (a : Addr) : Prop := (∃ kvs, Rd H a (.dK kvs)) ∨ ∃ kvs, Rd H a (.dT kvs)
theorem isD_at {X : Cx} {pins : List (Addr × Obj)} {σ : St} {H : Hp} {s : Shared} {a : Addr} (I : Inv X pins σ H s) (d : IsD H a) :
    s.TypeIs (.ref a) "dict" ∧ (∀ b, Value.ref a = .ref b → ∃ ob, s.heap.get? b = some ob ∧ ob.dict = none) ∧ (a == sysModules) = false := by
  rcases d with ⟨kvs, e⟩ | ⟨kvs, e⟩
  · obtain ⟨_, hd, vs, _, dd⟩ := dk_rd I.hok e
    refine ⟨dd.typeIs, fun b q => ?_, hd⟩
    cases q
    obtain ⟨ob, _, _, h1, h2, _⟩ := dd
    exact ⟨ob, h1, h2.2.1⟩
  · obtain ⟨_, hd, xs, _, dd⟩ := dt_rd I.hok e
    refine ⟨dd.typeIs, fun b q => ?_, hd⟩
    cases q
    obtain ⟨ob, _, _, h1, h2, _⟩ := dd
    exact ⟨ob, h1, h2.2.1⟩

section
variable {X : Cx} {pins : List (Addr × Obj)} {σ : St} {H : Hp} {s : Shared} {a : Addr} {y d : V} {u r : Value} {o : Option V} {A : Around} {E : Value → Shared → Prop}
/-- d.get(y) -/
theorem d_get1 {Q : Value → Shared → Prop} (hu : A.units + 1 < cLine) (I : Inv X pins σ H s) (g : DGet H a y o) (ry : RelV y u) (h : ∀ w' s', Inv X pins σ H s' → RelV (o.getD .non) w' → Q w' s') :
    wpAny (model X.prog X.w) A (call (.builtin "dict.get") [.ref a, u]) Q E s := by
  rcases g with ⟨kvs, k, e, ey, l⟩ | ⟨kvs, k, b, e, ey, eb, l⟩
  · subst ey
    obtain ⟨z, hd, vs, rel, dd⟩ := dk_rd I.hok e
    refine call_meetsIn PySem.F.slot_dict_get dd.typeIs PySem.F.entry_dict_get (PySem.F.args_dict_get_2 _ _) (meets_dict_get (mixKind X.prog X.w) a (kV_is ry) hd) ⟨_, dd.mapOf, h _ _ (I.tok _) ?_⟩
    rw [l]
    exact (rel.val k).getD rfl
  · subst ey
    cases (show u = Value.ref b from ry)
    obtain ⟨z, hd, xs, rel, dd⟩ := dt_rd I.hok e
    refine call_meetsIn PySem.F.slot_dict_get dd.typeIs PySem.F.entry_dict_get (PySem.F.args_dict_get_2 _ _) (meetsH_dict_get (tupleKind (mixKind X.prog X.w)) a b hd) ⟨tupleKind_room_in1 hu, k, xs, key_of I.hok eb, dd, h _ _ (I.tok _) ?_⟩
    rw [l]
    exact (rel.val k).getD rfl
/-- d.get(y, x) -/
theorem d_get2 {Q : Value → Shared → Prop} (hu : A.units + 1 < cLine) (I : Inv X pins σ H s) (g : DGet H a y o) (ry : RelV y u) (rd : RelV d r) (h : ∀ w' s', Inv X pins σ H s' → RelV (o.getD d) w' → Q w' s') :
    wpAny (model X.prog X.w) A (call (.builtin "dict.get") [.ref a, u, r]) Q E s := by
  rcases g with ⟨kvs, k, e, ey, l⟩ | ⟨kvs, k, b, e, ey, eb, l⟩
  · subst ey
    obtain ⟨z, hd, vs, rel, dd⟩ := dk_rd I.hok e
    refine call_meetsIn PySem.F.slot_dict_get dd.typeIs PySem.F.entry_dict_get (PySem.F.args_dict_get_3 _ _ _) (meets_dict_get_default (mixKind X.prog X.w) a (kV_is ry) hd r) ⟨_, dd.mapOf, h _ _ (I.tok _) ?_⟩
    rw [l]
    exact (rel.val k).getD rd
  · subst ey
    cases (show u = Value.ref b from ry)
    obtain ⟨z, hd, xs, rel, dd⟩ := dt_rd I.hok e
    refine call_meetsIn PySem.F.slot_dict_get dd.typeIs PySem.F.entry_dict_get (PySem.F.args_dict_get_3 _ _ _) (meetsH_dict_get_default (tupleKind (mixKind X.prog X.w)) a b hd r) ⟨tupleKind_room_in1 hu, k, xs, key_of I.hok eb, dd, h _ _ (I.tok _) ?_⟩
    rw [l]
    exact (rel.val k).getD rd
end

def tDGet1 (td ty : TE) : TE := fun σ H Q => td σ H fun x H1 => ∃ a, x = .ref a ∧ IsD H1 a ∧ ty σ H1 fun y H2 => ∃ o, DGet H2 a y o ∧ Q (o.getD .non) H2
def tDGet2 (td ty tx : TE) : TE := fun σ H Q => td σ H fun x H1 => ∃ a, x = .ref a ∧ IsD H1 a ∧ ty σ H1 fun y H2 => tx σ H2 fun z H3 => ∃ o, DGet H3 a y o ∧ Q (o.getD z) H3
/-- d.pop(k): there; d.pop(k, x): there or not -/
def tDPop1 (td ty : TE) : TE := fun σ H Q => td σ H fun x H1 => ∃ a, x = .ref a ∧ IsD H1 a ∧ ty σ H1 fun y H2 => ∃ kvs k v, H2 a = some (.dK kvs) ∧ y = kV k ∧ valV kvs k = some v ∧ Q v (upd H2 a (.dK (dropK kvs k)))
def tDPop2 (td ty tx : TE) : TE := fun σ H Q => td σ H fun x H1 => ∃ a, x = .ref a ∧ IsD H1 a ∧ ty σ H1 fun y H2 => tx σ H2 fun z H3 => ∃ kvs k, H3 a = some (.dK kvs) ∧ y = kV k ∧
  (∀ v, valV kvs k = some v → Q v (upd H3 a (.dK (dropK kvs k)))) ∧ (valV kvs k = none → Q z H3)
section
variable {X : Cx} {o e f : Expr} {apos cpos : Pos} {td ty tx : TE}
theorem pe_dget1 (hu : X.A.units + 1 < cLine) (ho : PE X o td) (he : PE X e ty) (m : M1 X o "get" apos e cpos) : PE X (.Call (.Attribute o "get" apos) [e] [] cpos) (tDGet1 td ty) := by
  intro pins s σ H Q I h
  refine wpAny_Call_method m.base m.few m.line PySem.F.plainAttrs_dict PySem.F.slot_dict_get PySem.F.type_dict_get (thn (ho pins s σ H _ I h) fun u s1 ⟨x, H1, I1, rx, a, ex, d, q1⟩ => ?_)
  subst ex
  obtain rfl : u = Value.ref a := rx
  obtain ⟨t1, t2, _⟩ := isD_at I1 d
  refine ⟨t1, t2, ?_⟩
  rw [m.trees]
  refine Calls.callWith_builtin rfl (Calls.evalArgs_plain (Calls.spliced_cons (thn (he pins s1 σ H1 _ I1 q1) fun iv s2 ⟨y, H2, I2, ry, ov, g, q2⟩ => Calls.spliced_nil ?_)))
  exact d_get1 hu I2 g ry fun w' s3 I3 rw' => ⟨_, H2, I3, rw', q2⟩
theorem pe_dget2 (hu : X.A.units + 1 < cLine) (ho : PE X o td) (he : PE X e ty) (hf : PE X f tx) (m : M2 X o "get" apos e f cpos) : PE X (.Call (.Attribute o "get" apos) [e, f] [] cpos) (tDGet2 td ty tx) := by
  intro pins s σ H Q I h
  refine wpAny_Call_method m.base m.few m.line PySem.F.plainAttrs_dict PySem.F.slot_dict_get PySem.F.type_dict_get (thn (ho pins s σ H _ I h) fun u s1 ⟨x, H1, I1, rx, a, ex, d, q1⟩ => ?_)
  subst ex
  obtain rfl : u = Value.ref a := rx
  obtain ⟨t1, t2, _⟩ := isD_at I1 d
  refine ⟨t1, t2, ?_⟩
  rw [m.trees]
  refine Calls.callWith_builtin rfl (Calls.evalArgs_plain (Calls.spliced_cons (thn (he pins s1 σ H1 _ I1 q1) fun iv s2 ⟨y, H2, I2, ry, q2⟩ =>
    Calls.spliced_cons (thn (hf pins s2 σ H2 _ I2 q2) fun fv s3 ⟨z, H3, I3, rz, ov, g, q3⟩ => Calls.spliced_nil ?_))))
  exact d_get2 hu I3 g ry rz fun w' s4 I4 rw' => ⟨_, H3, I4, rw', q3⟩
theorem pe_dpop1 (ho : PE X o td) (he : PE X e ty) (m : M1 X o "pop" apos e cpos) : PE X (.Call (.Attribute o "pop" apos) [e] [] cpos) (tDPop1 td ty) := by
  intro pins s σ H Q I h
  refine wpAny_Call_method m.base m.few m.line PySem.F.plainAttrs_dict PySem.F.slot_dict_pop PySem.F.type_dict_pop (thn (ho pins s σ H _ I h) fun u s1 ⟨x, H1, I1, rx, a, ex, d, q1⟩ => ?_)
  subst ex
  obtain rfl : u = Value.ref a := rx
  obtain ⟨t1, t2, _⟩ := isD_at I1 d
  refine ⟨t1, t2, ?_⟩
  rw [m.trees]
  refine Calls.callWith_builtin rfl (Calls.evalArgs_plain (Calls.spliced_cons (thn (he pins s1 σ H1 _ I1 q1) fun iv s2 ⟨y, H2, I2, ry, kvs, k, v, ea, ey, l, q2⟩ => Calls.spliced_nil ?_)))
  subst ey
  exact d_pop I2 ea ry l (.inl rfl) fun w' s3 I3 rw' => ⟨v, _, I3, rw', q2⟩
theorem pe_dpop2 (ho : PE X o td) (he : PE X e ty) (hf : PE X f tx) (m : M2 X o "pop" apos e f cpos) : PE X (.Call (.Attribute o "pop" apos) [e, f] [] cpos) (tDPop2 td ty tx) := by
  intro pins s σ H Q I h
  refine wpAny_Call_method m.base m.few m.line PySem.F.plainAttrs_dict PySem.F.slot_dict_pop PySem.F.type_dict_pop (thn (ho pins s σ H _ I h) fun u s1 ⟨x, H1, I1, rx, a, ex, d, q1⟩ => ?_)
  subst ex
  obtain rfl : u = Value.ref a := rx
  obtain ⟨t1, t2, _⟩ := isD_at I1 d
  refine ⟨t1, t2, ?_⟩
  rw [m.trees]
  refine Calls.callWith_builtin rfl (Calls.evalArgs_plain (Calls.spliced_cons (thn (he pins s1 σ H1 _ I1 q1) fun iv s2 ⟨y, H2, I2, ry, q2⟩ =>
    Calls.spliced_cons (thn (hf pins s2 σ H2 _ I2 q2) fun fv s3 ⟨z, H3, I3, rz, kvs, k, ea, ey, q3, q4⟩ => Calls.spliced_nil ?_))))
  subst ey
  cases l : valV kvs k with
  | some v => exact d_pop I3 ea ry l (.inr ⟨fv, rfl⟩) fun w' s4 I4 rw' => ⟨v, _, I4, rw', q3 v l⟩
  | none => exact d_popD I3 ea ry l fun s4 I4 => ⟨z, H3, I4, rz, q4 l⟩
end

/-! ### dict(d): a copy -/
section
variable {X : Cx} {pins : List (Addr × Obj)} {σ : St} {H : Hp} {s : Shared} {a : Addr} {kvs : List (Key × V)} {A : Around} {E : Value → Shared → Prop}
theorem d_copyOf {Q : Value → Shared → Prop} (I : Inv X pins σ H s) (e : Rd H a (.dK kvs)) (h : ∀ p s', H p = none → Inv X pins σ (upd H p (.dK kvs)) s' → Q (.ref p) s') : wpAny (model X.prog X.w) A (call (.type "dict") [.ref a]) Q E s := by
  obtain ⟨z, hd, vs, rel, dd⟩ := dk_rd I.hok e
  refine kt_call_dict hd dd (by rw [← rel.length]; exact z) fun h' dd' hs => ?_
  refine h _ _ (I.hok.fresh (Nat.le_refl _)) (I.laid (a := s.heap.objs.size) (o := .dK kvs) (t' := s.toks) (fun b q hq => ?_) (Nat.le_refl _) (dk_new z (beq_eq_false_iff_ne.mpr (Ne.symm (Nat.ne_of_lt I.big))) rel dd'))
  exact (hs.2 b (Nat.ne_of_lt (Heap.lt_size hq))).trans (Heap.get?_push_of_some _ hq)
end


section
variable {X : Cx} {pins : List (Addr × Obj)} {σ : St} {H : Hp} {s : Shared} {a : Addr} {y : V} {u : Value} {A : Around} {E : Value → Shared → Prop}
/-- d[y], not there: a KeyError -/
theorem d_missing {Q : Value → Shared → Prop} (hu : A.units + 1 < cLine) (hh : A.handled = none) (I : Inv X pins σ H s) (g : DGet H a y none) (ry : RelV y u)
    (h : ∀ h' e t', Heap.NewExc s.heap h' e "KeyError" → E (.ref e) { s with heap := h', toks := t' }) : wpAny (model X.prog X.w) A (getItem (.ref a) u) Q E s := by
  rcases g with ⟨kvs, k, e, ey, l⟩ | ⟨kvs, k, b, e, ey, eb, l⟩
  · subst ey
    obtain ⟨z, hd, vs, rel, dd⟩ := dk_rd I.hok e
    have hn : valueAt vs k = none := RelO.none_of (by rw [l]; exact rel.val k)
    exact wpAny_getItem_missing_of (kV_is ry) hd hh dd.mapOf hn fun h' ex ne => h h' ex _ ne
  · subst ey
    cases (show u = Value.ref b from ry)
    obtain ⟨z, hd, xs, rel, dd⟩ := dt_rd I.hok e
    have hn : (atKey xs k).map (·.2) = none := RelO.none_of (by rw [l]; exact rel.val k)
    exact wpAny_getItem_missing_heap (tupleKind_room_in1 hu) (key_of I.hok eb) hd hh dd (Option.map_eq_none_iff.mp hn) fun h' ex ne => h h' ex _ ne
end
end L2

namespace Att
open PySem PySem.W PySem.Calls PyProof.Rows

/-! ### the script -/
theorem ints_of_wellAll {P : Params} {h : Heap} : ∀ (ns : List Int) (vs : List Value), WellAll P h vs (ns.map WData.int) → IntsAre vs ns := by
  intro ns
  induction ns with
  | nil =>
    intro vs w
    rw [List.map_nil] at w
    cases w
    exact .nil
  | cons n ns ih =>
    intro vs w
    rw [List.map_cons] at w
    cases w with
    | cons a b =>
      cases a
      exact .cons _ _ (ih _ b)

theorem script_of {l : OpenLaw} {n : Nat} (hn : l.most = some n) {P : Params} {h : Heap} {args : List WData} {vals : List Value}
    (hpre : l.row.toRowW.claim.pre args = true) (hwl : WellAll P h vals args) :
    ∃ a vs ns, vals = [Value.ref a] ∧ args = [WData.list (ns.map WData.int)] ∧ h.get? a = some { cls := .type "list", data := .seq vs.toArray } ∧ IntsAre vs ns ∧ ns.length ≤ n := by
  have hsh : WShape.hasAll [] args [.list .int] = true := (pre_splitW hpre).1
  have hc : l.pre.holds [] { args := args } = true := (pre_splitW hpre).2
  obtain ⟨d, r, rfl, h1, h2⟩ := hasAllW_cons hsh
  obtain rfl := hasAllW_nil h2
  obtain ⟨xs, rfl, h3⟩ := hasW_list h1
  obtain ⟨ns, rfl⟩ := items_int h3
  have hlen : ns.length ≤ n := by
    unfold OpenLaw.pre at hc
    have h4 : (WTm.not (.lt (.lit (.int (n : Int))) (.len (.arg 0)))).holds [] { args := [.list (ns.map .int)] } = true := by
      have h4 := (holds_andW hc).1
      rw [hn] at h4
      exact h4
    have h5 := condW_of h4 (w_not (w_lt w_lit (w_len_list (w_arg rfl))))
    rw [List.length_map] at h5
    refine Nat.le_of_not_lt fun q => ?_
    have q' : (n : Int) < ((ns.length : Nat) : Int) := by omega
    first
      | (rw [decide_eq_true q'] at h5; exact absurd h5 (by decide))
      | (simp at h5; omega)
  cases hwl with
  | cons w1 w2 =>
    cases w2
    cases w1 with
    | list ho hall => exact ⟨_, _, ns, rfl, rfl, ho, ints_of_wellAll ns _ hall, hlen⟩

theorem post_true (l : OpenLaw) (args : List WData) : l.row.toRowW.claim.post args (.bool true) args = true :=
  postW_of (r := l.row.toRowW) (X := (true == true))
    (show WShape.has [] (.bool true) .bool = true by first | rfl | decide | simp [WShape.has, WShape.arms, WShape.armsAll])
    (show (WTm.eq .res (.lit (.bool true))).value [] { args := args, res := some (.bool true), after := args } = some (.bool (true == true)) from w_eq_bool (w_res rfl) w_lit) rfl

/-! ### the attachment: holds_open's last premise (the goal 'hc' behind k_head) from a wpAny of the law's body -/
theorem attach {l : OpenLaw} {n : Nat} {q : Program} {loose : List Str} {XP : (Str → Option Value) → Heap → Prop} {YP : World → Heap → Prop} {d : DefRec} {x : Str}
    (hn : l.most = some n) (hdf : d.params.defaults = [])
    (hbind : ∀ pm cd doc v : Value, bindArgs (docDef d.name d.params d.body d.scope pm cd doc) ⟨[v], []⟩ = pure [(x, v)])
    (hx : d.scope.names.lookup x = some .local ∨ d.scope.names.lookup x = some .cell)
    (hk : d.scope.kind = .function) (hco : d.scope.isCoroutine = false) (hgen : d.scope.isGenerator = false)
    (body : ∀ (w : World) (s₀ s₁ s : Shared) (mg mb : Str → Option Value) (fa : Addr) (o : Obj) (pm cd doc : Value) (a : Addr) (vs : List Value) (ns : List Int),
      Ground q loose [] XP w s₀ mg mb s₁.heap → YP w s₁.heap →
      s₁.heap.get? fa = some o → o.data = .func (docDef d.name d.params d.body d.scope pm cd doc) → s₁.heap.CodeRec cd d.name → mg d.name = some (.ref fa) →
      s₁.heap.get? a = some { cls := .type "list", data := .seq vs.toArray } → IntsAre vs ns → ns.length ≤ n →
      s.gens = #[] → s.os = s₁.os →
      Fr s₁.heap s₁.heap.objs.size s.heap (bindL (envOfC d.name d.scope s₁.heap.objs.size fa cd).kindOf [(x, .ref a)] fun _ => none) →
      Cl s₁.heap.objs.size (cellsFrom (s₁.heap.objs.size + 1) d.scope.names []) s.heap (bindC (envOfC d.name d.scope s₁.heap.objs.size fa cd).kindOf [(x, .ref a)] fun _ => none) →
      wpAny (model l.prog w) (callerA.deeper (envOfC d.name d.scope s₁.heap.objs.size fa cd)) (execs d.body (envOfC d.name d.scope s₁.heap.objs.size fa cd))
        (fun f s' => f = .ret (.bool true) ∧ OldK s₁.heap s'.heap ∧ s'.os = s₁.os ∧ AllBare s'.gens) (fun _ _ => False) s) :
    WalkO q loose XP YP l.row.toRowW d [] (fun f vs => PySem.call f vs) := by
  intro w s₀ s₁ mg mb G Y fa o pm cd doc dV kV ho hd hcd hD hmg hg args vals as hpre hlay hrd hwl hlo
  obtain rfl : dV = .none := Dflts.none hD hdf
  obtain rfl : kV = .none := Dflts.noKw hD
  obtain ⟨a, vs, ns, rfl, rfl, hobj, hints, hlen⟩ := script_of hn hpre hwl
  refine enter_call ?_
  refine call_cells_ret (o := o) (by rw [depth_caller]; decide) ho (fd_plain hd) G.T.nolimit hcd (hbind pm cd doc (.ref a)) (fun y hy => ?_) (fun h₁ tk F X => ?_) hco hgen hk
  · obtain rfl : y = (x, Value.ref a) := List.mem_singleton.mp hy
    rcases hx with e | e
    · exact .inl e
    · exact .inr ⟨e, cellsFrom_some _ _ _ (.inl e)⟩
  · refine wpAny_mono (body w s₀ s₁ { s₁ with heap := h₁, toks := tk } mg mb fa o pm cd doc a vs ns G Y ho (fd_plain hd) hcd hmg hobj hints hlen hg rfl F X) (fun f s' hq => ?_) (fun _ _ hq => hq)
    obtain ⟨rfl, h2, h3, h4⟩ := hq
    exact ⟨.inl ⟨.bool true, .bool true, [], rfl, fun _ => rfl, .bool true, post_true l _, fun _ => ⟨List.Pairwise.nil, fun _ hm => (nomatch hm)⟩⟩, h2, h3, h4⟩

/-- the same from a codeAny of the CALL (for a layer whose function contracts speak of calls) -/
theorem attach_call {l : OpenLaw} {n : Nat} {q : Program} {loose : List Str} {XP : (Str → Option Value) → Heap → Prop} {YP : World → Heap → Prop} {d : DefRec}
    (hn : l.most = some n) (hdf : d.params.defaults = [])
    (call : ∀ (w : World) (s₀ s₁ : Shared) (mg mb : Str → Option Value) (fa : Addr) (o : Obj) (pm cd doc : Value) (a : Addr) (vs : List Value) (ns : List Int),
      Ground q loose [] XP w s₀ mg mb s₁.heap → YP w s₁.heap →
      s₁.heap.get? fa = some o → o.data = .func (docDef d.name d.params d.body d.scope pm cd doc) → s₁.heap.CodeRec cd d.name → mg d.name = some (.ref fa) →
      s₁.heap.get? a = some { cls := .type "list", data := .seq vs.toArray } → IntsAre vs ns → ns.length ≤ n → s₁.gens = #[] →
      codeAny (model l.prog w) callerA (.call (.ref fa) ⟨[.ref a], []⟩) (fun r s' => r = .ok (.ret (.bool true)) ∧ OldK s₁.heap s'.heap ∧ s'.os = s₁.os ∧ AllBare s'.gens) s₁) :
    WalkO q loose XP YP l.row.toRowW d [] (fun f vs => PySem.call f vs) := by
  intro w s₀ s₁ mg mb G Y fa o pm cd doc dV kV ho hd hcd hD hmg hg args vals as hpre hlay hrd hwl hlo
  obtain rfl : dV = .none := Dflts.none hD hdf
  obtain rfl : kV = .none := Dflts.noKw hD
  obtain ⟨a, vs, ns, rfl, rfl, hobj, hints, hlen⟩ := script_of hn hpre hwl
  refine enter_call (codeAny_mono (call w s₀ s₁ mg mb fa o pm cd doc a vs ns G Y ho (fd_plain hd) hcd hmg hobj hints hlen hg) fun r s' hq => ?_)
  obtain ⟨rfl, h2, h3, h4⟩ := hq
  exact ⟨.inl ⟨.bool true, .bool true, [], rfl, fun _ => rfl, .bool true, post_true l _, fun _ => ⟨List.Pairwise.nil, fun _ hm => (nomatch hm)⟩⟩, h2, h3, h4⟩

/-- the same where the top left finished generators (o_head chose holds_openN): nothing may have changed at all and no generator may be left -/
theorem attachN {l : OpenLaw} {n : Nat} {q : Program} {loose : List Str} {XP : (Str → Option Value) → Heap → Prop} {YP : World → Heap → Prop} {d : DefRec} {x : Str}
    (hn : l.most = some n) (hdf : d.params.defaults = [])
    (hbind : ∀ pm cd doc v : Value, bindArgs (docDef d.name d.params d.body d.scope pm cd doc) ⟨[v], []⟩ = pure [(x, v)])
    (hx : d.scope.names.lookup x = some .local ∨ d.scope.names.lookup x = some .cell)
    (hk : d.scope.kind = .function) (hco : d.scope.isCoroutine = false) (hgen : d.scope.isGenerator = false)
    (body : ∀ (w : World) (s₀ s₁ s : Shared) (mg mb : Str → Option Value) (fa : Addr) (o : Obj) (pm cd doc : Value) (a : Addr) (vs : List Value) (ns : List Int),
      Ground q loose [] XP w s₀ mg mb s₁.heap → YP w s₁.heap →
      s₁.heap.get? fa = some o → o.data = .func (docDef d.name d.params d.body d.scope pm cd doc) → s₁.heap.CodeRec cd d.name → mg d.name = some (.ref fa) →
      s₁.heap.get? a = some { cls := .type "list", data := .seq vs.toArray } → IntsAre vs ns → ns.length ≤ n →
      s.gens = #[] → s.os = s₁.os →
      Fr s₁.heap s₁.heap.objs.size s.heap (bindL (envOfC d.name d.scope s₁.heap.objs.size fa cd).kindOf [(x, .ref a)] fun _ => none) →
      Cl s₁.heap.objs.size (cellsFrom (s₁.heap.objs.size + 1) d.scope.names []) s.heap (bindC (envOfC d.name d.scope s₁.heap.objs.size fa cd).kindOf [(x, .ref a)] fun _ => none) →
      wpAny (model l.prog w) (callerA.deeper (envOfC d.name d.scope s₁.heap.objs.size fa cd)) (execs d.body (envOfC d.name d.scope s₁.heap.objs.size fa cd))
        (fun f s' => f = .ret (.bool true) ∧ (∀ b o, s₁.heap.get? b = some o → s'.heap.get? b = some o) ∧ s'.os = s₁.os ∧ s'.gens = #[]) (fun _ _ => False) s) :
    WalkN q loose XP YP l.row.toRowW d [] (fun f vs => PySem.call f vs) := by
  intro w s₀ s₁ mg mb G Y fa o pm cd doc dV kV ho hd hcd hD hmg hg args vals as hpre hlay hrd hwl hlo
  obtain rfl : dV = .none := Dflts.none hD hdf
  obtain rfl : kV = .none := Dflts.noKw hD
  obtain ⟨a, vs, ns, rfl, rfl, hobj, hints, hlen⟩ := script_of hn hpre hwl
  refine enter_callW ?_
  refine call_cells_ret (o := o) (by rw [depth_caller]; decide) ho (fd_plain hd) G.T.nolimit hcd (hbind pm cd doc (.ref a)) (fun y hy => ?_) (fun h₁ tk F X => ?_) hco hgen hk
  · obtain rfl : y = (x, Value.ref a) := List.mem_singleton.mp hy
    rcases hx with e | e
    · exact .inl e
    · exact .inr ⟨e, cellsFrom_some _ _ _ (.inl e)⟩
  · refine wpAny_mono (body w s₀ s₁ { s₁ with heap := h₁, toks := tk } mg mb fa o pm cd doc a vs ns G Y ho (fd_plain hd) hcd hmg hobj hints hlen hg rfl F X) (fun f s' hq => ?_) (fun _ _ hq => hq)
    obtain ⟨rfl, h2, h3, h4⟩ := hq
    exact ⟨.inl ⟨.bool true, .bool true, [], rfl, fun _ => rfl, .bool true, post_true l _, fun _ => ⟨List.Pairwise.nil, fun _ hm => (nomatch hm)⟩⟩, h2, h3, h4⟩

/-! ### rules over ANY heap (no ledger) from facts about the written part K: the library's own take a ledger (News) for what they write -/
section
variable {prog : Program} {w : World} {A : Around} {E : Value → Shared → Prop} {s : Shared} {K : Frag}

/-- a def of the module, or a method (qual 'C.m'), entered: the frame is the next address; cells behind it -/
theorem call_fn {R : Result → Shared → Prop} {name qual : Str} {params : Arguments} {body : List Stmt} {scope : Scope} {dV kV doc pm cdv ct oc : Value} {an od : Option Addr} {osl : Array (Option Value)} {f : Addr} {args : Args} {binds : List (Str × Value)}
    (X : K.In s.heap) (hlim : s.heap.NoLimit) (ho : K.lookup f = some ⟨oc, od, .func (fnOf name qual params body scope dV kV doc pm an cdv ct), osl⟩) (hcd : codeIn K cdv qual = true) (hroom : A.depth < recursionLimit)
    (hbind : BindsTo s (fnOf name qual params body scope dV kV doc pm an cdv ct) args binds)
    (hkind : (binds.all fun y => scope.names.lookup y.1 == some .local || scope.names.lookup y.1 == some .cell) = true)
    (h : ∀ s₁, InCallC s s.heap.objs.size (bindL (envOfC qual scope s.heap.objs.size f cdv).kindOf binds fun _ => none) (cellsFrom (s.heap.objs.size + 1) scope.names [])
        (bindC (envOfC qual scope s.heap.objs.size f cdv).kindOf binds fun _ => none) s₁ →
      wpAny (model prog w) (A.deeper (envOfC qual scope s.heap.objs.size f cdv)) (execs body (envOfC qual scope s.heap.objs.size f cdv))
        (fun fl s' => R (.ok (.ret (match fl with | .ret v => v | _ => .none))) s')
        (fun e s' => wpAny (model prog w) (A.deeper (envOfC qual scope s.heap.objs.size f cdv)) (leaving (envOfC qual scope s.heap.objs.size f cdv) e) (fun _ s'' => R (.error e) s'') (fun e' s'' => R (.error e') s'') s') s₁)
    (hco : scope.isCoroutine = false) (hgen : scope.isGenerator = false) (hk : scope.kind = .function) : codeAny (model prog w) A (.call (.ref f) args) R s := by
  refine codeAny_call_function hroom (X _ _ ho) rfl hco hgen rfl (codeRec_of X hcd) (hbind _ _ _ _ ?_)
  refine wpAny_newFunctionEnv_cells hk (kindsX hkind _) fun env he s₁ x => ?_
  subst he
  exact ⟨hlim.keeps x.toInCall.keep, codeAny_func (h s₁ x)⟩

/-- C(..): dict at size, instance at size + 1, then __init__ -/
theorem make_obj {R : Result → Shared → Prop} {C fI : Addr} {rest : List Value} {kw : List (Str × Value)}
    (X : K.In s.heap) (hm : makesIn K C = true) (hi : findIn K (.ref C) "__init__" = some (some (.ref fI))) (hf : isFn K (.ref fI) = true)
    (h : codeAny (model prog w) (A.under (.builtin "type.__call__" ⟨.ref C :: rest, kw⟩)) (.call (.ref fI) ⟨.ref (s.heap.objs.size + 1) :: rest, kw⟩) (InitBack (s.heap.objs.size + 1) R)
      { s with heap := (s.heap.push emptyDict).push (instObj C s.heap.objs.size) }) : codeAny (model prog w) A (.call (.ref C) ⟨rest, kw⟩) R s := by
  obtain ⟨hh, g, d, t, os⟩ := s
  exact make_core (makes_of X hm) (looks_findIn X hi) (fun self => bind_fn X self (beq_iff_eq.mp hf)) (.inl rfl) h

/-- x.name where the instance's dict holds the name and the class does not -/
theorem get_field {x C : Addr} {ox : Obj} {es : List DictEntry} {n : Nat} {name : Str} {expr : Bool} {v : Value} {Q : Value → Shared → Prop}
    (X : K.In s.heap) (I : PySem.W.InstAt s.heap x ox C (some (dictOf es n))) (hg : plainGet K C name = true) (hh : hasDictIn K C = true) (ha : findIn K (.ref C) name = some none)
    (hl : getL name es = some (some v)) (hv : handedIn v = true) (h : Q v { s with toks := s.toks + 1 }) : wpAny (model prog w) A (getAttr (.ref x) name expr) Q E s :=
  get_value X I (plainGet_of hg).1 (findObj_own hh ha rfl hl) hv h

/-- x.m(..): the method found in the class -/
theorem get_method {x C f : Addr} {ox : Obj} {es : List DictEntry} {n : Nat} {name : Str} {pl : Sem Bool} {Q : Value × List Value → Shared → Prop}
    (X : K.In s.heap) (I : PySem.W.InstAt s.heap x ox C (some (dictOf es n))) (hg : plainGet K C name = true) (hf : findIn K (.ref C) name = some (some (.ref f))) (ht : isFn K (.ref f) = true)
    (hl : getL name es = some none) (h : Q (.ref f, [.ref x]) s) : wpAny (model prog w) A (getMethod (.ref x) name pl) Q E s :=
  method_fn X I (plainGet_of hg).1 (plainGet_of hg).2 hf (beq_iff_eq.mp ht) (by show (lookIn name (dictOf es n)).map _ = _; rw [lookIn_dict, hl]; rfl) h

/-! the whole heap as the ledger: makes every rule that writes through a ledger a rule over any heap -/
def noObjs (h : Heap) : Heap := { h with objs := #[] }
theorem noObjs_get (h : Heap) (b : Addr) : (noObjs h).get? b = none := by
  cases e : (noObjs h).get? b with
  | none => rfl
  | some o => exact absurd (Heap.lt_size e) (Nat.not_lt_zero _)
def ledger (h : Heap) (L d : Addr) : List (Addr × Obj) := (List.range h.objs.size).filterMap fun a => if a = L ∨ a = d then none else (h.get? a).map fun o => (a, o)
theorem mem_ledger {h : Heap} {L d a : Addr} {o : Obj} : (a, o) ∈ ledger h L d ↔ a ≠ L ∧ a ≠ d ∧ h.get? a = some o := by
  unfold ledger
  rw [List.mem_filterMap]
  constructor
  · rintro ⟨b, _, e⟩
    split at e
    · cases e
    · rename_i hb
      obtain ⟨o', ho, e'⟩ := Option.map_eq_some_iff.mp e
      cases e'
      exact ⟨fun q => hb (.inl q), fun q => hb (.inr q), ho⟩
  · rintro ⟨n1, n2, ho⟩
    refine ⟨a, List.mem_range.mpr (Heap.lt_size ho), ?_⟩
    rw [if_neg (show ¬ (a = L ∨ a = d) from fun q => q.elim n1 n2), ho] <;> rfl
theorem news_ledger {h : Heap} {L d : Addr} {od : Obj} (hne : d ≠ L) (ho : h.get? d = some od) : News (noObjs h) L h ([] ++ (d, od) :: ledger h L d) := by
  rintro ⟨a, o⟩ hp
  rcases List.mem_cons.mp hp with e | hp
  · cases e
    exact ⟨ho, hne, noObjs_get _ _⟩
  · obtain ⟨n1, n2, e⟩ := mem_ledger.mp hp
    exact ⟨e, n1, noObjs_get _ _⟩
theorem fr_all {h : Heap} {L : Addr} {m : Str → Option Value} (n : h.Ns L m) : Fr (noObjs h) L h m :=
  ⟨n, fun b o e => (by rw [noObjs_get] at e; cases e), Nat.zero_le _⟩
/-- Upd of the head entry (for append_K, setItem_K ..) -/
theorem upd_ledger {h : Heap} {L d : Addr} {o o' : Obj} : Upd d o o' ((d, o) :: ledger h L d) ((d, o') :: ledger h L d) :=
  .head fun ⟨_, _⟩ hp => (mem_ledger.mp hp).2.1

/-- x.name = v over any heap: L is any namespace of the heap (the frame's, say): its map stays, its object is not told; all else but the dict stays -/
theorem set_field {x C dx L : Addr} {ox : Obj} {m : Str → Option Value} {es es' : List DictEntry} {n n' : Nat} {name : Str} {v : Value} {Q : Unit → Shared → Prop}
    (X : K.In s.heap) (I : PySem.W.InstAt s.heap x ox C (some (dictOf es n))) (hd : ox.dict = some dx) (hL : s.heap.Ns L m) (hne : dx ≠ L)
    (hs : findIn K (.ref C) "__setattr__" = some (some (.builtin "object.__setattr__"))) (hp : plainOver K C = true) (ht : takerIn K C name = some none) (hh : hasDictIn K C = true) (hl : (getL name es).isSome = true)
    (e : (putL name (PyData.keyHash w.params name) (.str name (s.toks + 1)) v es, putN name es n) = (es', n')) (hz : es'.length ≤ 1000)
    (h : ∀ h' : Heap, h'.Ns L m → h'.get? dx = some (dictOf es' n') → (∀ b o, b ≠ dx → b ≠ L → s.heap.get? b = some o → h'.get? b = some o) → Q () { s with heap := h', toks := s.toks + 2 }) :
    wpAny (model prog w) A (setAttr (.ref x) name v) Q E s := by
  obtain ⟨e1, e2⟩ := Prod.mk.inj e
  have hdx : s.heap.get? dx = some (dictOf es n) := by
    have := I.dict
    rw [hd] at this
    exact this
  refine set_plain X I hs (osa_dict (s := { s with toks := s.toks + 1 }) (h₀ := noObjs s.heap) (L := L) (m := m) (od := dictOf es n) (od' := dictOf es' n') (es := es') (n := n') (pre := []) (post := ledger s.heap L dx)
    (fr_all hL) (news_ledger hne hdx) X I hd hp ht hh hl (fun _ q => nomatch q) (fun ⟨_, _⟩ q => (mem_ledger.mp q).2.1) (by rw [putName_dict, e1, e2]) rfl hz fun h' F' N' => ?_)
  exact h h' F'.ns (N'.get (List.Mem.head _)) fun b o n1 n2 ho => N'.get (List.Mem.tail _ (mem_ledger.mpr ⟨n2, n1, ho⟩))
end
end Att

namespace L2
open PySem PySem.Spec PyProof.Rows

theorem vals_ints : ∀ {vs : List Value} {ns : List Int}, IntsAre vs ns → Vals (ns.map V.int) vs
  | _, _, .nil => .nil
  | _, _, .cons n t h => .cons ⟨t, rfl⟩ (vals_ints h)

/-- nothing is tracked but the script, known to the object (or it is an object of the module) -/
def Only (H : Hp) : Prop := ∀ b, H b = none ∨ ∃ o xs, H b = some (.frz o (.lst xs))

/-- THE HEAD: the law's promise, at the heap behind the top. F, the promise of the law's def, may use that base is part of the heap (so K.In base, base.Ns mainGlobals mg stand in Mod) -/
theorem law_call {P : Program} {w : World} {K : PySem.W.Frag} {mg mb : Str → Option Value} {CX : CXT} {k : Nat} {fa a : Addr} {fd : FuncData} {x : Str} {sp : Sp} {s₁ : Shared} {vs : List Value} {ns : List Int}
    (KX : K.In s₁.heap) (hns : s₁.heap.Ns mainGlobals mg) (hb : s₁.heap.Ns builtinsNs mb) (hbb : ∀ x : Str, x ≠ "__name__" → mb x = bootBuiltins x) (hlim : s₁.heap.NoLimit) (hg : s₁.gens = #[])
    (ha : s₁.heap.get? a = some { cls := .type "list", data := .seq vs.toArray }) (hi : IntsAre vs ns) (hl : ns.length ≤ sizeLine) (hr : Room k callerA)
    (F : ∀ base : Heap, K.In base → base.Ns mainGlobals mg → FnOk P w K mg base CX k fa fd [x] sp) (hbind : ∀ (s : Shared) (u : Value), BindsTo s fd ⟨[u], []⟩ [(x, u)])
    (hsp : ∀ H : Hp, Only H → SqL K H a (ns.map V.int) → sp [.ref a] H (fun v _ => v = .bl true) fun _ _ _ => False)
    (hCX : ∀ H e s', CX [] H s₁ (fun _ _ _ => False) e s' → False) :
    codeAny (model P w) callerA (.call (.ref fa) ⟨[.ref a], []⟩) (fun r s' => r = .ok (.ret (.bool true)) ∧ OldK s₁.heap s'.heap ∧ s'.os = s₁.os ∧ AllBare s'.gens) s₁ := by
  have rv := vals_ints hi
  have lenV := hi.length
  -- from an abstract heap in which nothing but the script may be tracked
  have core : ∀ H : Hp, Only H → SqL K H a (ns.map V.int) → HOk P w H s₁.heap → (∀ b, H b ≠ none → b = a) → (H a ≠ none → K.lookup a = none) →
      codeAny (model P w) callerA (.call (.ref fa) ⟨[.ref a], []⟩) (fun r s' => r = .ok (.ret (.bool true)) ∧ OldK s₁.heap s'.heap ∧ s'.os = s₁.os ∧ AllBare s'.gens) s₁ := by
    intro H hO hS hok hA hK
    have base_of : ∀ {b : Addr} {o : Obj}, s₁.heap.get? b = some o → H b = none → (hidT s₁.heap H).get? b = some o := fun e n => hidT_get e n
    have noA : ∀ {b : Addr} {o : Obj} {es : Array DictEntry} {ep : Nat}, s₁.heap.get? b = some o → o.data = .dict es ep → H b = none := fun {b o es ep} e d => by
      cases q : H b with
      | none => rfl
      | some u =>
        have e' : b = a := hA b (by rw [q]; simp)
        subst e'
        rw [ha] at e; cases e
        have d' : Data.seq vs.toArray _ = Data.dict es ep := d
        cases d'
    have nsK : ∀ {b : Addr} {m : Str → Option Value}, s₁.heap.Ns b m → (hidT s₁.heap H).Ns b m := fun {b m} ⟨o, es, ep, e, d, r⟩ => ⟨o, es, ep, base_of e (noA e d), d, r⟩
    have hKb : K.In (hidT s₁.heap H) := fun b o e => base_of (KX b o e) (by
      cases q : H b with
      | none => rfl
      | some u =>
        have e' : b = a := hA b (by rw [q]; simp)
        subst e'
        rw [hK (by rw [q]; simp)] at e; cases e)
    have hM : Mod K mg (hidT s₁.heap H) := ⟨hKb, nsK hns, ⟨mb, nsK hb, hbb⟩, let ⟨mc, h1, h2⟩ := hlim; ⟨mc, nsK h1, h2⟩⟩
    have e0 : Env0 P w K mg (hidT s₁.heap H) callerA [] s₁ H := ⟨rfl, hM, fun b o e => of_hidT e, Nat.le_of_eq (hidT_size _ _), trivial, fun b hb => absurd (show b ∈ ([] : List Addr) from hb) (by simp), hok, .of_eq hg⟩
    refine codeAny_mono ((F _ hKb (nsK hns)).run callerA [] s₁ H ⟨[.ref a], []⟩ [.ref a] [.ref a] _ _ hr e0 (hbind s₁ (.ref a)) (.cons rfl .nil) (hsp H hO hS)) fun r s' h => ?_
    cases r with
    | error e => exact (hCX H e s' h).elim
    | ok fl =>
      cases fl with
      | next => exact False.elim h
      | brk => exact False.elim h
      | cont => exact False.elim h
      | ret u =>
        obtain ⟨v, H', os, bare, un, hok', r', q⟩ := h
        have q' : v = .bl true := q
        subst q'
        obtain rfl : u = Value.bool true := r'
        refine ⟨rfl, OldK.of_keep fun b o e => ?_, os, bare⟩
        cases q : H b with
        | none => exact un.keep b o e q (by intro z; exact absurd (show b ∈ ([] : List Addr) from z) (by simp)) (by simp)
        | some u =>
          rcases hO b with z | ⟨ob, xs, z⟩
          · rw [q] at z; cases z
          · have z2 := un.frzs b ob _ z
            obtain ⟨e1, _⟩ := hok b _ z
            obtain ⟨e2, _⟩ := hok' b _ z2
            rw [e] at e1; cases e1
            exact e2
  cases hk : K.lookup a with
  | some o =>
    -- the script is one of the module's own objects
    have e := KX a o hk
    rw [ha] at e
    cases e
    refine core (fun _ => none) (fun _ => .inl rfl) (.inr ⟨_, vs.toArray, _, hk, rfl, rfl, rfl, by rw [List.size_toArray, lenV]; exact hl, by simpa using rv⟩) (fun b u z => by have z' : (none : Option HO) = some u := z; cases z') (fun b z => absurd rfl z) fun z => absurd rfl z
  | none =>
    refine core (fun b => if b = a then some (.frz { cls := .type "list", data := .seq vs.toArray } (.lst (ns.map V.int))) else none) (fun b => ?_) (.inl (.inr ⟨{ cls := .type "list", data := .seq vs.toArray }, if_pos rfl⟩)) (fun b u z => ?_) (fun b z => ?_) fun _ => hk
    · by_cases hb : b = a
      · exact .inr ⟨_, _, if_pos hb⟩
      · exact .inl (if_neg hb)
    · by_cases hb : b = a
      · have z' := (if_pos hb).symm.trans z
        cases z'
        subst hb
        exact ⟨ha, by rw [List.length_map]; exact hl, vs, _, rv, ha⟩
      · have z' := (if_neg hb).symm.trans z
        cases z'
    · by_cases hb : b = a
      · exact hb
      · exact absurd (if_neg hb) z
end L2

namespace L2
open PySem PySem.Spec PyProof.Rows

abbrev KOf {K : PySem.W.Frag} {h : Heap} (_ : K.In h) : PySem.W.Frag := K

/-- the goal that k_head leaves (case hc), from the law's promise. F gives the function object fd (K's own) once, then the promise over every base -/
theorem walk_of {l : PySem.W.OpenLaw} {n k : Nat} {q : Program} {loose : List Str} {XP : (Str → Option Value) → Heap → Prop} {YP : World → Heap → Prop} {d : DefRec} {K : Params → PySem.W.Frag} {CX : World → CXT} {sp : World → Sp} {x : Str}
    (hn : l.most = some n) (hn2 : n ≤ sizeLine) (hdf : d.params.defaults = []) (hr : Room k callerA)
    (hY : ∀ (w : World) (h : Heap), YP w h → (K w.params).In h)
    (F : ∀ (w : World) (mg : Str → Option Value) (fa : Addr) (h : Heap), (K w.params).In h → h.Ns mainGlobals mg → mg d.name = some (.ref fa) →
      ∃ fd : FuncData, (∀ (s : Shared) (u : Value), BindsTo s fd ⟨[u], []⟩ [(x, u)]) ∧
        ∀ base : Heap, (K w.params).In base → base.Ns mainGlobals mg → FnOk l.prog w (K w.params) mg base (CX w) k fa fd [x] (sp w))
    (hsp : ∀ (w : World) (H : Hp) (a : Addr) (ns : List Int), ns.length ≤ n → Only H → SqL (K w.params) H a (ns.map V.int) → sp w [.ref a] H (fun v _ => v = .bl true) fun _ _ _ => False)
    (hCX : ∀ (w : World) (H : Hp) (s : Shared) (e : Value) (s' : Shared), CX w [] H s (fun _ _ _ => False) e s' → False) :
    PySem.W.WalkO q loose XP YP l.row.toRowW d [] (fun f vs => PySem.call f vs) := by
  refine Att.attach_call hn hdf fun w s₀ s₁ mg mb fa o pm cd doc a vs ns G Y ho hd hcd hmg hobj hints hlen hg => ?_
  have KX := hY w _ Y
  obtain ⟨fd, hb, hF⟩ := F w mg fa _ KX G.T.g hmg
  exact law_call KX G.T.g G.T.b G.T.builtins G.T.nolimit hg hobj hints (Nat.le_trans hlen hn2) hr hF hb (fun H hO hS => hsp w H a ns hlen hO hS) fun H e s' => hCX w H s₁ e s'
/-- the same where the promise hangs on the written part alone: (sp := My.sp_law), no hole under a binder -/
theorem walk_ofK {l : PySem.W.OpenLaw} {n k : Nat} {q : Program} {loose : List Str} {XP : (Str → Option Value) → Heap → Prop} {YP : World → Heap → Prop} {d : DefRec} {K : Params → PySem.W.Frag} {CX : CXT} {sp : PySem.W.Frag → Sp} {x : Str}
    (hn : l.most = some n) (hn2 : n ≤ sizeLine) (hdf : d.params.defaults = []) (hr : Room k callerA)
    (hY : ∀ (w : World) (h : Heap), YP w h → (K w.params).In h)
    (F : ∀ (w : World) (mg : Str → Option Value) (fa : Addr) (h : Heap), (K w.params).In h → h.Ns mainGlobals mg → mg d.name = some (.ref fa) →
      ∃ fd : FuncData, (∀ (s : Shared) (u : Value), BindsTo s fd ⟨[u], []⟩ [(x, u)]) ∧
        ∀ base : Heap, (K w.params).In base → base.Ns mainGlobals mg → FnOk l.prog w (K w.params) mg base CX k fa fd [x] (sp (K w.params)))
    (hsp : ∀ (K : PySem.W.Frag) (H : Hp) (a : Addr) (ns : List Int), ns.length ≤ n → Only H → SqL K H a (ns.map V.int) → sp K [.ref a] H (fun v _ => v = .bl true) fun _ _ _ => False)
    (hCX : ∀ (H : Hp) (s : Shared) (e : Value) (s' : Shared), CX [] H s (fun _ _ _ => False) e s' → False) :
    PySem.W.WalkO q loose XP YP l.row.toRowW d [] (fun f vs => PySem.call f vs) :=
  walk_of (K := K) (CX := fun _ => CX) (sp := fun w => sp (K w.params)) hn hn2 hdf hr hY F (fun w H a ns h1 h2 h3 => hsp (K w.params) H a ns h1 h2 h3) fun _ H s e s' => hCX H s e s'
end L2

/- THE LAST THEOREM (shape; LID, My.* are yours):
   My.Adr: a structure of the addresses that your layer names (classes, functions); My.Txt K t: a structure (Prop) of the equations over K;
   My.txt_mk : {K} {implicit addresses ..} (e1 : nsIn K mainGlobals "law" = some (some (.ref f))) (e2 : K.lookup f = some ⟨oc, od, .func (fnOf "law" "law" params body scope dV kV doc pm an cdv ct), sl⟩) (e3 : codeIn K cdv "law" = true) .. : ∃ t, My.Txt K t

set_option maxRecDepth 100000 in
set_option maxHeartbeats 0 in
theorem PySem.Challenge.cw_LID_holds : PySem.Challenge.rw_LID.Holds := by
  w_on; o_law; k_head; (case hw => w_witness2)
  k_fill
  refine L2.walk_of (l := PySem.Challenge.rw_LID) (n := 63) (k := 40) (x := "script") (CX := fun w => ..) (sp := fun _ => My.sp_law) rfl (by decide) rfl ⟨rfl, by decide, by decide⟩ (fun w h Y => PySem.W.kIn_of Y) ?F ?S ?C
  case F =>
    intro w mg fa h KX G hmg
    have T : ∃ t, My.Txt (L2.KOf KX) t := by
      dsimp only [L2.KOf]                          -- K must stand as «<heap const> w.params» for k_is
      refine' My.txt_mk ?e1 ?e2 ?e3 ..
      (case e1 => PySem.W.k_is)                    -- in the order: a name -> its address -> its object -> its parts
      (case e2 => PySem.W.k_is)
      ..
    obtain ⟨t, T⟩ := T
    have e0 := hmg.symm.trans (PySem.W.mg_of KX G T.law)
    cases e0                                       -- fa is the law's own address
    exact ⟨_, fun s u => .of_eq rfl, fun base kb nb => My.law_fn T kb nb⟩     -- if «.of_eq rfl» comes too early: refine' ⟨_, ?b, fun base kb nb => My.law_fn T kb nb⟩; exact fun s u => .of_eq rfl
  case S => exact fun w H a ns hl hO hS => ..
  case C => exact ..
(the tactic k_is has no namespace: write k_is) -/

/-! SHORT WORDS over the layer: a def of the text, its body, what a loop and a test want. -/
namespace L2
open PySem PySem.Spec PyProof.Rows

/-! ### the text by places -/
/-- the j-th statement of a class's body -/
def inClass (s : Stmt) (j : Nat) : Stmt := match s with
  | .ClassDef _ _ _ body _ _ _ _ _ _ _ => body.getD j (.Pass ⟨0, 0, 0, 0⟩)
  | _ => .Pass ⟨0, 0, 0, 0⟩
def defArgs (s : Stmt) : Arguments := match s with
  | .FunctionDef _ a _ _ _ _ _ _ _ _ => a
  | _ => { posonlyargs := [], args := [], vararg := none, kwonlyargs := [], kw_defaults := [], kwarg := none, defaults := [] }
def defBody (s : Stmt) : List Stmt := match s with
  | .FunctionDef _ _ b _ _ _ _ _ _ _ => b
  | _ => []
def defScope (s : Stmt) : Scope := match s with
  | .FunctionDef _ _ _ _ _ _ sc _ _ _ => sc
  | _ => { kind := .function, names := [], isGenerator := false, isCoroutine := false }

/-! ### no exception leaves a def -/
abbrev CX0 : CXT := fun _ _ _ _ _ _ => False
abbrev E0 : XK := fun _ _ _ => False
theorem pass0 {X : Cx} : Passes CX0 X E0 := fun _ _ _ _ _ _ _ h => h.elim

/-! ### a def (or method) of the text as it stands behind the top -/
structure Fun (K : PySem.W.Frag) (x qual : Str) (st : Stmt) (f : Addr) (fd : FuncData) : Prop where
  ex : ∃ (oc : Value) (od : Option Addr) (kV doc pm : Value) (an : Option Addr) (cdv ct : Value) (osl : Array (Option Value)),
    fd = PySem.W.fnOf x qual (defArgs st) (defBody st) (defScope st) .none kV doc pm an cdv ct ∧ K.lookup f = some ⟨oc, od, .func fd, osl⟩ ∧ PySem.W.codeIn K cdv qual = true
  kp : PySem.W.keepIn K (.ref f) = true
section
variable {P : Program} {w : World} {K : PySem.W.Frag} {mg : Str → Option Value} {base : Heap}
/-- THE RULE for a def: its body as a term of rules, and the reading of that term -/
theorem Fun.ok {x qual : Str} {st : Stmt} {f : Addr} {fd : FuncData} {N ps : List Str} {k : Nat} {sp : Sp} (F : Fun K x qual st f fd) (S : FnScope N ps (defScope st)) (len : ∀ vs H Q E, sp vs H Q E → vs.length = ps.length)
    (hbody : ∀ (cdv : Value) (A : Around) (outer : List Env) (s : Shared) (H : Hp) (vs : List V) (Q : VK) (E : XK), Room k (A.deeper (envOfC qual (defScope st) s.heap.objs.size f cdv)) → sp vs H Q E →
      ∃ t, PSs (cxOf CX0 P w K mg base N qual (defScope st) f cdv A outer s H E).nox (defBody st) t ∧ t { nx := fun _ H' => Q .non H', rt := Q } (start N vs) H) : FnOk P w K mg base CX0 (k + 1) f fd ps sp := by
  obtain ⟨oc, od, kV, doc, pm, an, cdv, ct, osl, rfl, lk, hcd⟩ := F.ex
  refine fn_of lk hcd S len fun A outer s H vs Q E hr hsp => ?_
  obtain ⟨t, h, q⟩ := hbody cdv A outer s H vs Q E hr hsp
  exact ⟨t, h.nox, q⟩
/-- how its arguments bind (no defaults): h is «fun _ _ _ _ _ _ us hl => match us, hl with | [_, _], _ => rfl», one _ a parameter -/
theorem Fun.binds {x qual : Str} {st : Stmt} {f : Addr} {fd : FuncData} {ps : List Str} (F : Fun K x qual st f fd)
    (h : ∀ (kV doc pm : Value) (an : Option Addr) (cdv ct : Value) (us : List Value), us.length = ps.length → bindArgs (PySem.W.fnOf x qual (defArgs st) (defBody st) (defScope st) .none kV doc pm an cdv ct) ⟨us, []⟩ = pure (ps.zip us)) : Binds K fd ps [] := by
  obtain ⟨oc, od, kV, doc, pm, an, cdv, ct, osl, rfl, lk, hcd⟩ := F.ex
  exact .all (h kV doc pm an cdv ct)
theorem fun_mk {x qual : Str} {st : Stmt} {f : Addr} {oc : Value} {od an : Option Addr} {osl : Array (Option Value)} {kV doc pm cdv ct : Value} (l : K.lookup f = some ⟨oc, od, .func (PySem.W.fnOf x qual (defArgs st) (defBody st) (defScope st) .none kV doc pm an cdv ct), osl⟩)
    (c : PySem.W.codeIn K cdv qual = true) (k : PySem.W.keepIn K (.ref f) = true) : Fun K x qual st f (PySem.W.fnOf x qual (defArgs st) (defBody st) (defScope st) .none kV doc pm an cdv ct) := ⟨⟨oc, od, kV, doc, pm, an, cdv, ct, osl, rfl, l, c⟩, k⟩
end
theorem hu_of {A : Around} {k : Nat} (hr : Room k A) : A.units + 1 < cLine := Nat.lt_of_le_of_lt (Nat.add_le_add_left (by decide : 1 ≤ 64) _) hr.units
theorem small1000 {n : Nat} (h : n ≤ 1000) : n < sizeLine := Nat.lt_of_le_of_lt h (by decide)

/-! ### expressions in short: the name that stands in the i-th slot -/
section
variable {X : Cx}
theorem pv (i : Nat) {x : Str} {pos : Pos} (hN : X.N[i]? = some x := by rfl) (hv : Vis X.env.scope x := by first | exact Or.inl rfl | exact Or.inr (Or.inl rfl) | exact Or.inr (Or.inr rfl)) (hd : (x == ("__debug__" : Str)) = false := by decide)
    (hcd : (x == ("__classdict__" : Str)) = false := by decide) : PE X (.Name x pos) (tVar i) := pe_var hN hv hd hcd
/-- len of a dict -/
theorem call_lenD : CallR X (.builtin "len") (fun xs H Q => ∃ a kvs, xs = [V.ref a] ∧ H a = some (.dK kvs) ∧ Q (.int kvs.length) H) := by
  intro pins s σ H xs us Q I r h
  obtain ⟨a, kvs, rfl, ha, q⟩ := h
  obtain ⟨u, rfl, ru⟩ := vals1 r
  cases ru
  exact d_len I (.inl ha) fun t s' I' => ⟨.int kvs.length, H, I', ⟨t, rfl⟩, q⟩
end

/-! ### tests -/
theorem iteF {A B : Prop} (h : B) : if false = true then A else B := by
  rw [if_neg Bool.false_ne_true]
  exact h
theorem iteT {A B : Prop} (h : A) : if true = true then A else B := by
  rw [if_pos rfl]
  exact h
theorem ite2 {c A B : Prop} [Decidable c] (h1 : c → A) (h2 : ¬ c → B) : if c then A else B := by
  by_cases h : c
  · rw [if_pos h]
    exact h1 h
  · rw [if_neg h]
    exact h2 h
theorem iteNS {c A B : Prop} [Decidable c] (hc : c) (h : B) : if (!decide c) = true then A else B := by
  rw [decide_eq_true hc]
  exact iteF h

/-! ### heaps -/
/-- all that was tracked is as it was -/
def Same (H H' : Hp) : Prop := ∀ b o, H b = some o → H' b = some o
theorem Same.refl (H : Hp) : Same H H := fun _ _ h => h
theorem Same.trans {H H1 H2 : Hp} (a : Same H H1) (b : Same H1 H2) : Same H H2 := fun c o h => b c o (a c o h)
theorem Same.free {H H' : Hp} (e : Same H H') {l : Addr} (h : H' l = Option.none) : H l = Option.none := by
  cases q : H l with
  | none => rfl
  | some o =>
    rw [e l o q] at h
    cases h
theorem Same.seq {K : PySem.W.Frag} {H H' : Hp} {a : Addr} {xs : List V} (e : Same H H') (h : SqL K H a xs) : SqL K H' a xs := by
  rcases h with (h | ⟨o, h⟩) | h
  · exact .inl (.inl (e _ _ h))
  · exact .inl (.inr ⟨o, e _ _ h⟩)
  · exact .inr h

/-! ### a dict's pairs: keys that differ -/
section
variable {κ : Type} [DecidableEq κ]
theorem valV_not {kvs : List (κ × V)} {k : κ} (h : valV kvs k = none) : ¬ k ∈ kvs.map (·.1) := by
  intro m
  obtain ⟨p, hp, e⟩ := List.mem_map.mp m
  have q : (kvs.any fun kv => decide (kv.1 = k)) = true := List.any_eq_true.mpr ⟨p, hp, decide_eq_true e⟩
  rw [valV_any, h] at q
  exact absurd q (by simp)
theorem valV_in {kvs : List (κ × V)} {k : κ} {v : V} (h : valV kvs k = some v) : k ∈ kvs.map (·.1) := by
  have q : (kvs.any fun kv => decide (kv.1 = k)) = true := by
    rw [valV_any, h]
    all_goals rfl
  obtain ⟨p, hp, e⟩ := List.any_eq_true.mp q
  exact List.mem_map.mpr ⟨p, hp, of_decide_eq_true e⟩
theorem nd_snoc : ∀ {l : List κ} {k : κ}, l.Nodup → ¬ k ∈ l → (l ++ [k]).Nodup
  | [], k, _, _ => by simp
  | a :: r, k, h, hk => by
    obtain ⟨h1, h2⟩ := List.nodup_cons.mp h
    show (a :: (r ++ [k])).Nodup
    refine List.nodup_cons.mpr ⟨fun m => ?_, nd_snoc h2 fun m => hk (List.mem_cons.mpr (Or.inr m))⟩
    rcases List.mem_append.mp m with q | q
    · exact h1 q
    · exact hk (List.mem_cons.mpr (Or.inl (List.mem_singleton.mp q).symm))
theorem nd_putK {kvs : List (κ × V)} {k : κ} (v : V) (hn : (kvs.map (·.1)).Nodup) (h : valV kvs k = none) : ((putK kvs k v).map (·.1)).Nodup := by
  rw [putK_new v h, List.map_append]
  exact nd_snoc hn (valV_not h)
theorem dropK_pos {p : κ × V} {r : List (κ × V)} {k : κ} (e : p.1 = k) : dropK (p :: r) k = dropK r k := by
  unfold dropK
  rw [List.filter_cons, if_neg (by simp [e])]
theorem dropK_neg {p : κ × V} {r : List (κ × V)} {k : κ} (e : ¬ p.1 = k) : dropK (p :: r) k = p :: dropK r k := by
  unfold dropK
  rw [List.filter_cons, if_pos (by simp [e])]
theorem dropK_no : ∀ {kvs : List (κ × V)} {k : κ}, ¬ k ∈ kvs.map (·.1) → dropK kvs k = kvs
  | [], _, _ => rfl
  | p :: r, k, h => by
    have h' : ¬ k ∈ r.map (·.1) := fun m => by
      obtain ⟨q, hq, e⟩ := List.mem_map.mp m
      exact h (List.mem_map.mpr ⟨q, List.mem_cons.mpr (Or.inr hq), e⟩)
    rw [dropK_neg fun e => h (List.mem_map.mpr ⟨p, List.mem_cons.mpr (Or.inl rfl), e⟩), dropK_no h']
theorem dropK_mem {kvs : List (κ × V)} {k : κ} {p : κ × V} (h : p ∈ dropK kvs k) : p ∈ kvs := (List.mem_filter.mp h).1
theorem nd_dropK : ∀ {kvs : List (κ × V)} {k : κ}, (kvs.map (·.1)).Nodup → ((dropK kvs k).map (·.1)).Nodup
  | [], _, _ => List.nodup_nil
  | p :: r, k, h => by
    have h : (p.1 :: r.map (·.1)).Nodup := h
    obtain ⟨h1, h2⟩ := List.nodup_cons.mp h
    by_cases e : p.1 = k
    · rw [dropK_pos e]
      exact nd_dropK h2
    · rw [dropK_neg e]
      show (p.1 :: (dropK r k).map (·.1)).Nodup
      refine List.nodup_cons.mpr ⟨fun m => h1 ?_, nd_dropK h2⟩
      obtain ⟨q, hq, eq⟩ := List.mem_map.mp m
      exact List.mem_map.mpr ⟨q, dropK_mem hq, eq⟩
theorem dropK_len : ∀ {kvs : List (κ × V)} {k : κ}, (kvs.map (·.1)).Nodup → k ∈ kvs.map (·.1) → (dropK kvs k).length + 1 = kvs.length
  | [], _, _, m => by simp at m
  | p :: r, k, h, m => by
    have h : (p.1 :: r.map (·.1)).Nodup := h
    have m : k = p.1 ∨ k ∈ r.map (·.1) := List.mem_cons.mp m
    obtain ⟨h1, h2⟩ := List.nodup_cons.mp h
    by_cases e : p.1 = k
    · subst e
      rw [dropK_pos rfl, dropK_no h1]
      all_goals rfl
    · have m' : k ∈ r.map (·.1) := m.resolve_left fun z => e z.symm
      have q := dropK_len h2 m'
      rw [dropK_neg e, List.length_cons, List.length_cons]
      omega
end
end L2

set_option Elab.async false
set_option linter.all false
set_option maxRecDepth 100000
set_option maxHeartbeats 4000000
/-! RULES OF MY OWN over the hand layer: a lambda made in a def's body, sorted by such a key, == of lists of rows and of dicts, the head of a law one of whose defs makes a lambda -/
namespace L2
open PySem PySem.Spec PyProof.Rows
section
variable {X : Cx} {pins : List (Addr × Obj)} {σ : St} {H : Hp} {s : Shared} {h' : Heap}

/-- a code object's table has grown -/
theorem Inv.table {P : Addr} {ps more : Array Value} {t' : Nat} (I : Inv X pins σ H s) (e : H P = some (.tbl ps)) (k : ∀ b o, b ≠ P → s.heap.get? b = some o → h'.get? b = some o)
    (hP : h'.get? P = some { cls := .none, data := .fields (ps ++ more) }) : Inv X pins σ (upd H P (.tbl (ps ++ more))) { s with heap := h', toks := t' } := by
  have nP : ∀ b, H b = none → b ≠ P := fun b n z => by rw [z, e] at n; cases n
  refine I.un ⟨fun b o q n _ _ => k b o (nP b n) q, fun b o q n _ _ => ⟨o.slots, k b o (nP b n) q⟩, fun b o q n _ => by rw [upd_ne (nP b n)]; exact n, fun b o q _ => ?_, fun b xs q => ?_, fun b o u q => ?_, fun b qs q => ?_⟩ fun b u q => ?_
  · by_cases z : b = P
    · exact ⟨_, by rw [z]; exact hP⟩
    · exact ⟨o, k b o z q⟩
  · rw [upd_ne (ne_of q e (by intro z; cases z))]; exact q
  · rw [upd_ne (ne_of q e (by intro z; cases z))]; exact q
  · by_cases z : b = P
    · subst z; rw [e] at q; cases q; exact ⟨more, upd_same⟩
    · exact ⟨#[], by rw [upd_ne z, q]; simp⟩
  · by_cases z : b = P
    · subst z; rw [upd_same] at q; cases q; exact hP
    · rw [upd_ne z] at q
      refine (I.hok b u q).stay (fun c v hc r => k c v ?_ r) (fun c r => by rw [upd_ne (ne_of r e (by intro z; cases z))]; exact r) fun c xs r => by rw [upd_ne (ne_of r e (by intro z; cases z))]; exact r
      rcases hc with hc | hc
      · rw [hc]; exact z
      · exact ne_of hc e (by intro z; cases z)
/-- an object that no one tracked is tracked from now on -/
theorem Inv.track {a : Addr} {o : HO} (I : Inv X pins σ H s) (hs : X.s₀.heap.objs.size ≤ a) (f : FpOk X pins H a) (new : ObjOk X.prog X.w (upd H a o) s.heap a o) : Inv X pins σ (upd H a o) s := by
  obtain ⟨hn, hL, hfs, _, hcl, hpn⟩ := f
  have ne : ∀ b u, H b = some u → b ≠ a := fun b u q => ne_of_none q hn
  refine ⟨I.ok, I.os, I.bare, ⟨I.base.keep, I.base.slot, fun b ob q n hx => ?_, I.base.there, fun b xs q => ?_, fun b ob u q => ?_, fun b ps q => ?_⟩, I.loc, I.cell, ?_, fun x c q => ?_, fun p hp => ?_, fun b u q => ?_, I.len⟩
  · rw [upd_ne (Nat.ne_of_lt (Nat.lt_of_lt_of_le (Heap.lt_size q) hs))]; exact I.base.free b ob q n hx
  · have r := I.base.tups b xs q
    rw [upd_ne (ne b _ r)]; exact r
  · have r := I.base.frzs b ob u q
    rw [upd_ne (ne b _ r)]; exact r
  · obtain ⟨m, r⟩ := I.base.tbls b ps q
    exact ⟨m, by rw [upd_ne (ne b _ r)]; exact r⟩
  · rw [upd_ne (Ne.symm hL)]; exact I.free
  · rw [upd_ne (hcl x c q)]; exact I.freeC x c q
  · obtain ⟨e, n, r⟩ := I.pin p hp
    exact ⟨e, by rw [upd_ne (hpn p hp)]; exact n, r⟩
  · by_cases z : b = a
    · subst z; rw [upd_same] at q; cases q; exact new
    · rw [upd_ne z] at q
      exact (I.hok b u q).stay (fun _ _ _ r => r) (fun c r => by rw [upd_ne (ne c _ r)]; exact r) fun c xs r => by rw [upd_ne (ne c _ r)]; exact r
end

/-! ### a lambda made in a def's body -/
def CodeRecAt (c : Addr) (q : Str) : Heap → Prop := fun h => h.CodeRec (.ref c) q
theorem CodeRecAt.st {c : Addr} {q : Str} {h1 h2 : Heap} (x : CodeRecAt c q h1) (k : ∀ o, h1.get? c = some o → h2.get? c = some o) : CodeRecAt c q h2 := by
  obtain ⟨c', o, vs, t, e, g, r⟩ := x
  cases e
  exact ⟨c, o, vs, t, rfl, k o g, r⟩
theorem CodeRecAt.obj {c : Addr} {q : Str} {h : Heap} (x : CodeRecAt c q h) : ∃ o, h.get? c = some o := by
  obtain ⟨c', o, vs, t, e, g, r⟩ := x
  cases e
  exact ⟨o, g⟩
def FnIs (f : Addr) (params : Arguments) (body : Expr) (scope : Scope) (q : Str) (c : Addr) : Heap → Prop := fun h => ∃ pm ctv, h.get? f = some (PySem.W.kla_obj "<lambda>" q params body scope [] pm c ctv)
theorem FnIs.st {f : Addr} {params : Arguments} {body : Expr} {scope : Scope} {q : Str} {c : Addr} {h1 h2 : Heap} (x : FnIs f params body scope q c h1) (k : ∀ o, h1.get? f = some o → h2.get? f = some o) : FnIs f params body scope q c h2 := by
  obtain ⟨pm, ctv, e⟩ := x
  exact ⟨pm, ctv, k _ e⟩
/-- the table of the def's code at P: no lambda made yet, or the one at pos -/
def LamT (P : Addr) (pos : Pos) (q : Str) (H : Hp) : Prop :=
  H P = some (.tbl #[]) ∨ ∃ c, H P = some (.tbl #[rawInt pos.line, rawInt pos.col, .ref c]) ∧ H c = some (.ext (CodeRecAt c q))
theorem LamT.tbl {P : Addr} {pos : Pos} {q : Str} {H : Hp} (L : LamT P pos q H) : ∃ ps, H P = some (.tbl ps) := by
  rcases L with L | ⟨c, L, _⟩
  · exact ⟨_, L⟩
  · exact ⟨_, L⟩
/-- what a def that makes the lambda leaves: all but the table as it was -/
structure Go (P : Addr) (pos : Pos) (q : Str) (H H' : Hp) : Prop where
  same : ∀ b o, b ≠ P → H b = some o → H' b = some o
  lam : LamT P pos q H'
theorem Go.refl {P : Addr} {pos : Pos} {q : Str} {H : Hp} (L : LamT P pos q H) : Go P pos q H H := ⟨fun _ _ _ e => e, L⟩
theorem Go.trans {P : Addr} {pos : Pos} {q : Str} {H H1 H2 : Hp} (a : Go P pos q H H1) (b : Go P pos q H1 H2) : Go P pos q H H2 := ⟨fun c o n e => b.same c o n (a.same c o n e), b.lam⟩
/-- a tracked object that is no table stays -/
theorem Go.at {P : Addr} {pos : Pos} {q : Str} {H H' : Hp} (G : Go P pos q H H') (L : LamT P pos q H) {b : Addr} {o : HO} (e : H b = some o) (n : ∀ ps, o ≠ .tbl ps) : H' b = some o := by
  obtain ⟨ps, eP⟩ := L.tbl
  exact G.same b o (ne_of e eP (n ps)) e
/-- a new object beside -/
theorem LamT.upd_new {P : Addr} {pos : Pos} {q : Str} {H : Hp} (L : LamT P pos q H) {a : Addr} {o : HO} (hn : H a = none) : LamT P pos q (upd H a o) := by
  rcases L with L | ⟨c, L, Lc⟩
  · exact .inl (by rw [upd_ne (ne_of_none L hn)]; exact L)
  · exact .inr ⟨c, by rw [upd_ne (ne_of_none L hn)]; exact L, by rw [upd_ne (ne_of_none Lc hn)]; exact Lc⟩
theorem Go.new {P : Addr} {pos : Pos} {q : Str} {H : Hp} (L : LamT P pos q H) {a : Addr} {o : HO} (hn : H a = none) : Go P pos q H (upd H a o) :=
  ⟨fun b u _ e => by rw [upd_ne (ne_of_none e hn)]; exact e, L.upd_new hn⟩
/-- an object of one's own is changed -/
theorem LamT.upd_own {P : Addr} {pos : Pos} {q : Str} {H : Hp} (L : LamT P pos q H) {a : Addr} {o u : HO} (ha : H a = some u) (n1 : ∀ ps, u ≠ .tbl ps) (n2 : ∀ φ, u ≠ .ext φ) : LamT P pos q (upd H a o) := by
  rcases L with L | ⟨c, L, Lc⟩
  · exact .inl (by rw [upd_ne (ne_of L ha (n1 _).symm)]; exact L)
  · exact .inr ⟨c, by rw [upd_ne (ne_of L ha (n1 _).symm)]; exact L, by rw [upd_ne (ne_of Lc ha (n2 _).symm)]; exact Lc⟩

def tLam (P : Addr) (pos : Pos) (q : Str) (params : Arguments) (body : Expr) (scope : Scope) : TE := fun _ H Q => LamT P pos q H ∧
  ∀ H' f c, Go P pos q H H' → H f = none → H' c = some (.ext (CodeRecAt c q)) → H' f = some (.ext (FnIs f params body scope q c)) → Q (.ref f) H'
section
variable {X : Cx}
theorem pe_lam {params : Arguments} {body : Expr} {scope : Scope} {pos : Pos} {c P : Addr} (hcd : X.env.code = .ref c) (hC : PySem.W.CodeHd X.base c P) (hB : X.base.BuiltinsAt X.mg P)
    (hdef : defaultsOf params X.env = ([], [])) (hcl : closureFor scope X.env = pure []) : PE X (.Lambda params body scope pos) (tLam P pos (X.env.qual ++ "<lambda>") params body scope) := by
  intro pins s σ H Q I hh
  obtain ⟨L, h⟩ := hh
  refine PySem.W.kla_eval hdef ?_
  have hg : s.heap.Ns mainGlobals X.mg := I.ok.mod.glob.keeps I.bk
  have hgP : mainGlobals ≠ P := fun z => by
    obtain ⟨o, es, ep, e, _⟩ := I.ok.mod.glob
    have n := (I.bs _ _ e).2
    obtain ⟨ps, eP⟩ := L.tbl
    rw [z, eP] at n
    cases n
  rcases L with L | ⟨c1, L, Lc⟩
  · have hP : s.heap.get? P = some (PySem.W.tabObj #[]) := I.hok P _ L
    have hPlt : P < s.heap.objs.size := Heap.lt_size hP
    refine PySem.W.kla_makeFunction hcl I.ok.glob hg hcd (hC.keeps I.bk) hP trivial rfl hgP (hB.keeps I.bk) fun c' ctv h' tk hx hge hlt hrec htb => ?_
    have fge : s.heap.objs.size ≤ h'.objs.size := Nat.le_trans hge (Nat.le_of_lt hlt)
    have nc : H c' = none := I.hok.fresh hge
    have nf : H h'.objs.size = none := I.hok.fresh fge
    have cP : c' ≠ P := Nat.ne_of_gt (Nat.lt_of_lt_of_le hPlt hge)
    have fP : h'.objs.size ≠ P := Nat.ne_of_gt (Nat.lt_of_lt_of_le hPlt fge)
    have cf : c' ≠ h'.objs.size := Nat.ne_of_lt hlt
    have I1 := I.table (h' := h'.push (PySem.W.kla_obj "<lambda>" (X.env.qual ++ "<lambda>") params body scope [] ((X.mg "__name__").getD .none) c' ctv)) (more := #[rawInt pos.line, rawInt pos.col, .ref c']) (t' := tk) L
      (fun b o z q => Heap.get?_push_of_some _ (hx b o z q)) (Heap.get?_push_of_some _ htb)
    have e0 : (#[] : Array Value) ++ #[rawInt pos.line, rawInt pos.col, .ref c'] = #[rawInt pos.line, rawInt pos.col, .ref c'] := by simp
    rw [e0] at I1
    have rec' : CodeRecAt c' (X.env.qual ++ "<lambda>") (h'.push (PySem.W.kla_obj "<lambda>" (X.env.qual ++ "<lambda>") params body scope [] ((X.mg "__name__").getD .none) c' ctv)) :=
      CodeRecAt.st (show CodeRecAt c' _ h' from hrec) fun o q => Heap.get?_push_of_some _ q
    have I2 := I1.track (a := c') (o := .ext (CodeRecAt c' (X.env.qual ++ "<lambda>"))) (Nat.le_trans I.sz hge) (I.fpOk hge (by rw [upd_ne cP]; exact nc)) ⟨rec', rec'.obj, fun h1 h2 x k => x.st k⟩
    have fn' : FnIs h'.objs.size params body scope (X.env.qual ++ "<lambda>") c' (h'.push (PySem.W.kla_obj "<lambda>" (X.env.qual ++ "<lambda>") params body scope [] ((X.mg "__name__").getD .none) c' ctv)) := ⟨_, _, Heap.get?_push_size _ rfl⟩
    have I3 := I2.track (a := h'.objs.size) (o := .ext (FnIs h'.objs.size params body scope (X.env.qual ++ "<lambda>") c')) (Nat.le_trans I.sz fge)
      (I.fpOk fge (by rw [upd_ne cf.symm, upd_ne fP]; exact nf)) ⟨fn', ⟨_, Heap.get?_push_size _ rfl⟩, fun h1 h2 x k => x.st k⟩
    refine ⟨.ref h'.objs.size, _, I3, rfl, h _ _ c' ⟨fun b o z q => ?_, .inr ⟨c', ?_, ?_⟩⟩ nf ?_ upd_same⟩
    · rw [upd_ne (ne_of_none q nf), upd_ne (ne_of_none q nc), upd_ne z]; exact q
    · rw [upd_ne fP.symm, upd_ne cP.symm, upd_same]
    · rw [upd_ne cf, upd_same]
    · rw [upd_ne cf, upd_same]
  · have hP : s.heap.get? P = some (PySem.W.tabObj #[rawInt pos.line, rawInt pos.col, .ref c1]) := I.hok P _ L
    refine PySem.W.kla_makeFunctionHit (cv := .ref c1) hcl I.ok.glob hg hcd (hC.keeps I.bk) hP (by simp [TriplesOk, rawInt]) (by simp [codeAmong, rawInt]) (hB.keeps I.bk) fun ctv h' tk hk hsz => ?_
    have nf : H h'.objs.size = none := I.hok.fresh hsz
    have fn' : FnIs h'.objs.size params body scope (X.env.qual ++ "<lambda>") c1 (h'.push { cls := .type "function", data := .func (PySem.W.kla_fn "<lambda>" (X.env.qual ++ "<lambda>") params body scope [] ((X.mg "__name__").getD .none) (.ref c1) ctv) }) := ⟨_, _, Heap.get?_push_size _ rfl⟩
    have I1 := I.laid (a := h'.objs.size) (o := .ext (FnIs h'.objs.size params body scope (X.env.qual ++ "<lambda>") c1)) (t' := tk) (fun b u q => Heap.get?_push_of_some _ (hk b u q)) hsz ⟨fn', ⟨_, Heap.get?_push_size _ rfl⟩, fun h1 h2 x k => x.st k⟩
    refine ⟨.ref h'.objs.size, _, I1, rfl, h _ _ c1 (Go.new (.inr ⟨c1, L, Lc⟩) nf) nf ?_ upd_same⟩
    rw [upd_ne (ne_of_none Lc nf)]; exact Lc
end

/-! ### sorted(xs, key=lambda row: row[0]) -/
section
variable {prog : Program} {w : World} {A : Around} {E : Value → Shared → Prop} {s : Shared}
/-- one call of lambda row: row[0] upon a tuple -/
theorem lam_turn {f c p : Addr} {k : Int} {t : Tok} {r : List Value} {pa p1 p2 p3 : Pos} {j : Nat} {q : Str} {pm ctv : Value} {scope : Scope} {Q : Value → Shared → Prop}
    (hA : A.depth < recursionLimit)
    (hf : s.heap.get? f = some (PySem.W.kla_obj "<lambda>" q { posonlyargs := [], args := [{ arg := "row", annotation := none, pos := pa }], vararg := none, kwonlyargs := [], kw_defaults := [], kwarg := none, defaults := [] }
      (.Subscript (.Name "row" p1) (.Constant (.int 0) j p2) p3) scope [] pm c ctv))
    (hsc : scope.kind = .function) (hsn : scope.names = [(PySem.Str.ofString "row", .local)]) (hsg : scope.isGenerator = false) (hsco : scope.isCoroutine = false)
    (hc : s.heap.CodeRec (.ref c) q) (hp : IsTup s.heap p (Value.int k t :: r).toArray) (hr : r.length < 1000) (lim : s.heap.NoLimit)
    (hq : ∀ h₁ tk, (∀ b o, s.heap.get? b = some o → h₁.get? b = some o) → Q (.int k t) { s with heap := h₁, toks := tk }) :
    wpAny (model prog w) A (call (.ref f) [.ref p]) Q E s := by
  refine wpAny_call (PySem.W.kla_callFunE hA hf rfl hsco hsg rfl hc ?_)
  have hb : ∀ (pm' cdv ctv' : Value), bindArgs (PySem.W.kla_fn "<lambda>" q { posonlyargs := [], args := [{ arg := "row", annotation := none, pos := pa }], vararg := none, kwonlyargs := [], kw_defaults := [], kwarg := none, defaults := [] }
      (.Subscript (.Name "row" p1) (.Constant (.int 0) j p2) p3) scope [] pm' cdv ctv') ⟨[.ref p], []⟩ = (pure [(("row" : Str), Value.ref p)] : Sem (List (Str × Value))) := fun _ _ _ => rfl
  rw [hb]
  refine wpAny_pure (wpAny_newFunctionEnv (by rw [hsn]; intro y hy; rw [List.mem_singleton.mp hy]; intro z; cases z) (by rw [hsn]; intro y hy; rw [List.mem_singleton.mp hy]; rfl) (fun h₁ hns hsb => ⟨lim.fresh _ hsb, ?_⟩) hsc)
  have keep : ∀ b o, s.heap.get? b = some o → h₁.get? b = some o := fun b o e => (hsb.2 b (Nat.ne_of_lt (Heap.lt_size e))).trans (Heap.get?_push_of_some _ e)
  refine PySem.W.kla_codeExpr ?_
  refine Subscript_ (wpAny_Name (wpAny_loadName_local hsc (by show scope.names.lookup _ = _; rw [hsn]; rfl) hns rfl ?_) (by decide))
  refine wpAny_Constant_int ?_
  have hp1 : IsTup h₁ p (Value.int k t :: r).toArray := by
    obtain ⟨o, e, rest⟩ := hp
    exact ⟨o, keep _ _ e, rest⟩
  refine subscriptTail_builtinR (x := .int k t) (T := "tuple") hp1.typeIs slot_tuple_getitem.lookup ?_ rfl
  refine getItem_tuple (j := 0) hp1 (by decide) (by decide) ?_ (by simp) ⟨rfl, hq h₁ _ keep⟩
  simp [seqIndex?]
end
end L2

set_option Elab.async false
set_option linter.all false
set_option maxRecDepth 100000
set_option maxHeartbeats 4000000
namespace L2
open PySem PySem.Spec PyProof.Rows
/-! ### the whole heap as a ledger -/
section
variable {X : Cx} {pins : List (Addr × Obj)} {σ : St} {H : Hp} {s : Shared}
theorem news_whole {h : Heap} {L : Addr} : News (Att.noObjs h) L h (Att.ledger h L L) := by
  rintro ⟨a, o⟩ hp
  obtain ⟨n1, _, e⟩ := Att.mem_ledger.mp hp
  exact ⟨e, n1, Att.noObjs_get _ _⟩
/-- behind a rule that made one list: all else but the frame is kept, the frame's map too -/
theorem Inv.newList {h' : Heap} {t' : Nat} {D : Addr} {m : Str → Option Value} {xs : List V} {its : List Value} {n : Nat} (I : Inv X pins σ H s) (hm : s.heap.Ns X.env.locals m) (hn : h'.Ns X.env.locals m)
    (k : ∀ b o, b ≠ X.env.locals → s.heap.get? b = some o → h'.get? b = some o) (fr : s.heap.get? D = none) (hD : h'.get? D = some { cls := .type "list", data := .seq its.toArray n })
    (r : Vals xs its) (hz : xs.length ≤ sizeLine) : H D = none ∧ Inv X pins σ (upd H D (.lst xs)) { s with heap := h', toks := t' } := by
  have nD : H D = none := by
    cases q : H D with
    | none => rfl
    | some u =>
      exfalso
      have : ∃ o, s.heap.get? D = some o := by
        have l := (I.hok D u q).lt
        have z := I.hok D u q
        cases u with
        | lst ys => obtain ⟨_, _, _, _, e⟩ := z; exact ⟨_, e⟩
        | tup ys => obtain ⟨_, _, _, o, e, _⟩ := z; exact ⟨_, e⟩
        | dK kvs => obtain ⟨_, _, _, _, o, _, _, e, _⟩ := z; exact ⟨_, e⟩
        | dT kvs => obtain ⟨_, _, _, _, o, _, _, e, _⟩ := z; exact ⟨_, e⟩
        | set S n => obtain ⟨o, _, _, _, e, _⟩ := z; exact ⟨_, e⟩
        | ins C dx fs => obtain ⟨_, _, _, e, _⟩ := z; exact ⟨_, e⟩
        | own y => exact z
        | xd fs => obtain ⟨_, ⟨o, _, _, e, _⟩, _⟩ := z; exact ⟨_, e⟩
        | rng lo hi => obtain ⟨_, _, _, e⟩ := z; exact ⟨_, e⟩
        | frz ob u => obtain ⟨e, _⟩ := z; exact ⟨_, e⟩
        | tbl ps => exact ⟨_, z⟩
        | met f y => exact ⟨_, z⟩
        | ext φ => exact z.2.1
      obtain ⟨o, e⟩ := this
      rw [fr] at e; cases e
  have ne : ∀ b u, H b = some u → b ≠ D := fun b u q => ne_of_none q nD
  have nL : ∀ b u, H b = some u → b ≠ X.env.locals := fun b u q => ne_of_none q I.free
  refine ⟨nD, I.step (g' := s.gens) (d' := s.drawn) (ch := []) (fun b z => absurd z (by simp)) (fun b o hL _ _ e _ => k b o hL e) (fun b o hL _ _ e _ => ⟨o.slots, k b o hL e⟩) (fun b o _ e n => ?_) (fun b o _ e => ?_)
    (fun b ys q => ?_) (fun b o u q => ?_) (fun b ps q => ?_) (fun m' hm' => ?_) (fun b u q => ?_) I.bare⟩
  · rw [upd_ne (fun z => by rw [z, fr] at e; cases e)]; exact n
  · by_cases z : b = X.env.locals
    · obtain ⟨o', _, _, e', _⟩ := hn
      exact ⟨o', by rw [z]; exact e'⟩
    · exact ⟨o, k b o z e⟩
  · rw [upd_ne (ne b _ q)]; exact q
  · rw [upd_ne (ne b _ q)]; exact q
  · exact ⟨#[], by rw [upd_ne (ne b _ q), q]; simp⟩
  · have e1 := hm.eq_nsMap
    have e2 := hm'.eq_nsMap
    rw [e2, ← e1]; exact hn
  · by_cases z : b = D
    · subst z; rw [upd_same] at q; cases q
      exact ⟨hz, its, n, r, hD⟩
    · rw [upd_ne z] at q
      refine (I.hok b u q).stay (fun c v hc r => k c v ?_ r) (fun c r => by rw [upd_ne (ne c _ r)]; exact r) fun c ys r => by rw [upd_ne (ne c _ r)]; exact r
      rcases hc with hc | hc
      · rw [hc]; exact nL b u q
      · exact nL c _ hc
end
theorem vals_refs {ps : List Addr} {its : List Value} (r : Vals (ps.map V.ref) its) : its = ps.map Value.ref := by
  induction ps generalizing its with
  | nil => cases r; rfl
  | cons p ps ih =>
    cases r with
    | cons h t => rw [List.map_cons, ← ih t]; cases h; rfl
theorem refs_vals : ∀ ps : List Addr, Vals (ps.map V.ref) (ps.map Value.ref)
  | [] => .nil
  | _ :: ps => .cons rfl (refs_vals ps)
def addrOf : Value → Addr
  | .ref a => a
  | _ => 0
theorem paired_get {α β : Type} {F : α → β → Prop} : ∀ {l₁ : List α} {l₂ : List β}, Paired F l₁ l₂ → ∀ {i : Nat} {a : α}, l₁[i]? = some a → ∃ b, l₂[i]? = some b ∧ F a b
  | _, _, .nil, _, _, e => by simp at e
  | _, _, .cons r _, 0, _, e => by simp at e; subst e; exact ⟨_, rfl, r⟩
  | _, _, .cons _ t, i + 1, a, e => by
    obtain ⟨b, h1, h2⟩ := paired_get t (i := i) (a := a) (by simpa using e)
    exact ⟨b, by simpa using h1, h2⟩
/-- sorted by the lambda: t the list, tk the key -/
def tSort (pa p1 p2 p3 : Pos) (j : Nat) (scope : Scope) (q : Str) (t tk : TA) : TE := fun σ H Q => t σ H fun vs H1 => tk σ H1 fun zs H2 => ∃ (l f c : Addr) (ps : List Addr) (ks : List Int),
  vs = [.ref l] ∧ zs = [.ref f] ∧ H2 l = some (.lst (ps.map V.ref)) ∧ ps.length < 64 ∧ Paired (fun p k => ∃ r, H2 p = some (.tup (.int k :: r)) ∧ r.length < 1000) ps ks ∧
  H2 c = some (.ext (CodeRecAt c q)) ∧
  H2 f = some (.ext (FnIs f { posonlyargs := [], args := [{ arg := "row", annotation := none, pos := pa }], vararg := none, kwonlyargs := [], kw_defaults := [], kwarg := none, defaults := [] } (.Subscript (.Name "row" p1) (.Constant (.int 0) j p2) p3) scope q c)) ∧
  ∀ (D : Addr) (zs : List (Int × Addr)), zs.Perm (ks.zip ps) → zs.Pairwise (fun a b => a.1 ≤ b.1) → H2 D = none → Q (.ref D) (upd H2 D (.lst (zs.map fun z => V.ref z.2)))
section
variable {X : Cx} {e : Expr} {kws : List Keyword} {t tk : TA} {p pos : Pos}
theorem pe_sort {k : Nat} {pa p1 p2 p3 : Pos} {j : Nat} {scope : Scope} {q : Str} (hr : Room k X.A) (hg : Gl X "sorted") (hm : X.mg "sorted" = none) (ha : PA X [e] t) (hk : PK X kws tk)
    (hsc : scope.kind = .function) (hsn : scope.names = [(PySem.Str.ofString "row", .local)]) (hsg : scope.isGenerator = false) (hsco : scope.isCoroutine = false)
    (he : backTo pos (starEach [e] X.env) = (false, eval e X.env) :: backTo pos (starEach [] X.env) := by rfl) (hplain : (backTo pos (starEach [e] X.env)).any (·.1) = false := by rfl)
    (hall : (backToKw pos (keywordEach kws X.env)).all (·.1.isSome) = true := by rfl) (hkw : (backToKw pos (keywordEach kws X.env)).any (·.1.isNone) = false := by rfl)
    (hks : (backToKw pos (keywordEach kws X.env)).filterMap (·.1) = [PySem.Str.ofString "key"] := by rfl) : PE X (.Call (.Name "sorted" p) [e] kws pos) (tSort pa p1 p2 p3 j scope q t tk) := by
  intro pins s σ H Q I h
  refine wpAny_Call_Name_kw (ld_blt I hg hm PyProof.Rows.Boot.«sorted» ?_)
  refine callWith_kw (thn (ha pos pins s σ H _ I h) fun us s1 hh => ?_) he hplain hall hkw
  obtain ⟨vs, H1, I1, r1, q1⟩ := hh
  refine thn (hk pos pins s1 σ H1 _ I1 q1) fun ws s2 hh => ?_
  obtain ⟨zs, H2, I2, r2, l, f, c, ps, ks, rfl, rfl, hl, h64, pk, hc, hf, done⟩ := hh
  obtain ⟨u, rfl, ru⟩ := vals1 r1
  obtain ⟨u2, rfl, ru2⟩ := vals1 r2
  cases (show u = Value.ref l from ru)
  cases (show u2 = Value.ref f from ru2)
  rw [hks]
  show wpAny _ _ (call (.builtin "sorted") [.ref l] [(PySem.Str.ofString "key", .ref f)]) _ _ _
  obtain ⟨its, n, rv, ho, hz⟩ := I2.lst hl
  obtain rfl := vals_refs rv
  obtain ⟨m, hn, _⟩ := id I2.loc
  have kl : ks.length = ps.length := (Paired.length pk).symm
  have nL : ∀ b u, H2 b = some u → b ≠ X.env.locals := fun b u q => ne_of_none q I2.free
  refine ksk_sorted (h₀ := Att.noObjs s2.heap) (L := X.env.locals) (m := m) (news := Att.ledger s2.heap X.env.locals X.env.locals) (kz := ks) (vs := ps.map Value.ref) (b := false) (f := .ref f) (Att.fr_all hn) news_whole ⟨_, ho, rfl, n, rfl⟩ (by rw [List.length_map, kl]) (by rw [List.length_map]; exact h64)
    (ksk_s1 _ _) (fun x => ksk_l1 _ _) (fun x => ksk_t1 f x) (fun i v kz hv hkz h1 tk1 own F1 N1 => ?_) (fun D h3 tk3 out c3 F3 N3 lt ko => ?_)
  · -- one call of the key
    rw [List.getElem?_map] at hv
    cases ep : ps[i]? with
    | none => rw [ep] at hv; cases hv
    | some a =>
      rw [ep] at hv
      cases hv
      obtain ⟨k', ek, r, ht, hr'⟩ := paired_get pk ep
      rw [hkz] at ek
      cases ek
      have kept : ∀ b o, b ≠ X.env.locals → s2.heap.get? b = some o → h1.get? b = some o := fun b o n e => (N1 (b, o) (List.mem_append_left _ (Att.mem_ledger.mpr ⟨n, n, e⟩))).1
      obtain ⟨hz2, ts, rt, ot, et, ct, nt, dt⟩ := (show ObjOk X.prog X.w H2 s2.heap a (.tup (.int kz :: r)) from I2.hok a _ ht)
      cases rt with
      | @cons _ u _ us hu0 htl =>
        obtain ⟨tt, rfl⟩ := hu0
        obtain ⟨pm, ctv, ef⟩ := (show ObjOk X.prog X.w H2 s2.heap f _ from I2.hok f _ hf).1
        have hcr := (show ObjOk X.prog X.w H2 s2.heap c _ from I2.hok c _ hc).1
        obtain ⟨oc, eoc⟩ := CodeRecAt.obj hcr
        have hl1 : us.length < 1000 := by have := Paired.length htl; omega
        refine lam_turn (s := { s2 with heap := h1, toks := tk1 }) (scope := scope) (show X.A.depth < recursionLimit from hr.depth) (kept _ _ (nL _ _ hf) ef) hsc hsn hsg hsco (CodeRecAt.st hcr fun o e => kept _ _ (nL _ _ hc) e) ⟨ot, kept _ _ (nL _ _ ht) et, ct, nt, dt⟩ hl1
          (I2.ok.mod.nolimit.keeps fun b o e => kept b o (Nat.ne_of_lt (Nat.lt_of_lt_of_le (Heap.lt_size e) (Nat.le_trans I2.ok.bsz I2.ok.above))) (I2.bk b o e)) fun h₁ tk' hk' => ?_
        exact ⟨h₁, tk', tt, rfl, rfl, ⟨F1.ns.keeps hk', fun b o e => hk' b o (F1.keep b o e), F1.above⟩, fun p hp => ⟨hk' _ _ (N1 p hp).1, (N1 p hp).2⟩⟩
  · -- the sorted list
    obtain ⟨qs, hp, ho3, hs⟩ := ko
    have kept : ∀ b o, b ≠ X.env.locals → s2.heap.get? b = some o → h3.get? b = some o := fun b o n e => (N3 (b, o) (List.mem_cons_of_mem _ (Att.mem_ledger.mpr ⟨n, n, e⟩))).1
    have nD := N3 (D, seqObj "list" out c3) List.mem_cons_self
    have fr : s2.heap.get? D = none := by
      cases e : s2.heap.get? D with
      | none => rfl
      | some o => exact absurd (lt (D, o) (Att.mem_ledger.mpr ⟨nD.2.1, nD.2.1, e⟩)) (Nat.lt_irrefl _)
    have eg : ks.zip (ps.map Value.ref) = (ks.zip ps).map fun z => (z.1, Value.ref z.2) := by
      rw [List.zip_map_right]
      rfl
    have all : ∀ z ∈ qs, (z.1, Value.ref (addrOf z.2)) = z := fun z hz => by
      have := hp.mem_iff.mp hz
      rw [eg] at this
      obtain ⟨y, _, rfl⟩ := List.mem_map.mp this
      rfl
    have hp2 : (qs.map fun z => (z.1, addrOf z.2)).Perm (ks.zip ps) := by
      have := hp.map fun z : Int × Value => (z.1, addrOf z.2)
      rw [eg, List.map_map] at this
      have e2 : ((fun z : Int × Value => (z.1, addrOf z.2)) ∘ fun z : Int × Addr => (z.1, Value.ref z.2)) = id := by funext z; rfl
      rw [e2, List.map_id] at this
      exact this
    have hs2 : (qs.map fun z => (z.1, addrOf z.2)).Pairwise (fun a b => a.1 ≤ b.1) := by
      rw [List.pairwise_map]
      exact hs.imp fun q => q
    have e3 : out.toList = ((qs.map fun z => (z.1, addrOf z.2)).map fun z => Value.ref z.2) := by
      rw [ho3, List.map_map]
      refine List.map_congr_left fun z hz => ?_
      exact (congrArg Prod.snd (all z hz)).symm
    have eo : out = (((qs.map fun z => (z.1, addrOf z.2)).map fun z => z.2).map Value.ref).toArray := by
      rw [List.map_map]
      have : out = out.toList.toArray := by simp
      rw [this, e3]
      rfl
    have hD : h3.get? D = some { cls := .type "list", data := .seq (((qs.map fun z => (z.1, addrOf z.2)).map fun z => z.2).map Value.ref).toArray c3 } := by rw [← eo]; exact nD.1
    have hl3 : (qs.map fun z => (z.1, addrOf z.2)).length ≤ sizeLine := by
      rw [hp2.length_eq, List.length_zip, kl, Nat.min_self]
      rw [List.length_map] at hz
      exact hz
    obtain ⟨nH, I3⟩ := I2.newList (t' := tk3) hn F3.ns kept fr hD (refs_vals _) (by rw [List.length_map, List.length_map]; exact hl3)
    rw [List.map_map] at I3
    exact ⟨.ref D, _, I3, rfl, done D _ hp2 hs2 nH⟩
end
end L2

set_option Elab.async false
set_option linter.all false
set_option maxRecDepth 100000
set_option maxHeartbeats 4000000
namespace L2
open PySem PySem.Spec PyProof.Rows
/-! ### rows: tuples (first, last, mark) in a list -/
abbrev RowV := Int × Int × V
/-- a mark: None or an int -/
def MarkV : V → Prop
  | .non => True
  | .int _ => True
  | _ => False
def tupV (r : RowV) : List V := [.int r.1, .int r.2.1, r.2.2]
/-- at a stands the list of these rows -/
def RowsP (H : Hp) (ps : List Addr) (rs : List RowV) : Prop := Paired (fun p r => H p = some (.tup (tupV r)) ∧ MarkV r.2.2) ps rs
def RowsL (H : Hp) (a : Addr) (rs : List RowV) : Prop := ∃ ps, H a = some (.lst (ps.map V.ref)) ∧ RowsP H ps rs
def datM : V → PySem.W.Dat
  | .int i => .int i
  | _ => .none
def datR (r : RowV) : PySem.W.Dat := .tuple [.int r.1, .int r.2.1, datM r.2.2]
theorem datM_inj : ∀ {x y : V}, MarkV x → MarkV y → datM x = datM y → x = y
  | .non, .non, _, _, _ => rfl
  | .int _, .int _, _, _, e => by cases e; rfl
  | .non, .int _, _, _, e => by cases e
  | .int _, .non, _, _, e => by cases e
theorem datR_inj {r s : RowV} (h1 : MarkV r.2.2) (h2 : MarkV s.2.2) (e : datR r = datR s) : r = s := by
  obtain ⟨a, b, c⟩ := r
  obtain ⟨a', b', c'⟩ := s
  unfold datR at e
  injection e with e
  injection e with e1 e
  injection e with e2 e
  injection e with e3 _
  injection e1 with e1
  injection e2 with e2
  have := datM_inj h1 h2 e3
  simp only at e1 e2 this
  rw [e1, e2, this]
theorem rowsP_marks {H : Hp} {ps : List Addr} {rs : List RowV} (h : RowsP H ps rs) : ∀ r ∈ rs, MarkV r.2.2 := by
  unfold RowsP at h
  induction h with
  | nil => intro r hr; cases hr
  | cons a t ih =>
    intro r hr
    rcases List.mem_cons.mp hr with e | hr
    · rw [e]; exact a.2
    · exact ih r hr
theorem datRs_inj : ∀ {rs ss : List RowV}, (∀ r ∈ rs, MarkV r.2.2) → (∀ r ∈ ss, MarkV r.2.2) → rs.map datR = ss.map datR → rs = ss
  | [], [], _, _, _ => rfl
  | [], _ :: _, _, _, e => by cases e
  | _ :: _, [], _, _, e => by cases e
  | r :: rs, s :: ss, h1, h2, e => by
    rw [List.map_cons, List.map_cons] at e
    injection e with e1 e2
    rw [datR_inj (h1 r List.mem_cons_self) (h2 s List.mem_cons_self) e1, datRs_inj (fun r hr => h1 r (List.mem_cons_of_mem _ hr)) (fun r hr => h2 r (List.mem_cons_of_mem _ hr)) e2]
theorem datR_ok (rs : List RowV) (h : ∀ r ∈ rs, MarkV r.2.2) : ∀ d ∈ rs.map datR, PySem.W.kqdOk 8 d = true := by
  intro d hd
  obtain ⟨r, hr, rfl⟩ := List.mem_map.mp hd
  have m := h r hr
  obtain ⟨a, b, c⟩ := r
  cases c with
  | non => rfl
  | int i => rfl
  | _ => exact m.elim
theorem datL_ok (rs : List RowV) (h : ∀ r ∈ rs, MarkV r.2.2) : PySem.W.kqdOk 9 (.list (rs.map datR)) = true := List.all_eq_true.mpr (datR_ok rs h)
section
variable {X : Cx} {pins : List (Addr × Obj)} {σ : St} {H : Hp} {s : Shared}
theorem reads_mark {h : Heap} {x : V} {u : Value} (m : MarkV x) (r : RelV x u) : Reads h u (PySem.W.kqdP (datM x)) [] := by
  cases x with
  | non =>
    cases r
    have e : datM V.non = .none := rfl
    rw [e, PySem.W.kqdP]; exact .none
  | int i =>
    obtain ⟨t, rfl⟩ := r
    have e : datM (V.int i) = .int i := rfl
    rw [e, PySem.W.kqdP]; exact .int i t
  | _ => exact m.elim
theorem reads_row {p : Addr} {r : RowV} (I : Inv X pins σ H s) (e : H p = some (.tup (tupV r))) (m : MarkV r.2.2) : Reads s.heap (.ref p) (PySem.W.kqdP (datR r)) [] := by
  obtain ⟨hz, its, rt, ot, et, ct, nt, dt⟩ := (show ObjOk X.prog X.w H s.heap p (.tup (tupV r)) from I.hok p _ e)
  cases rt with
  | cons h1 rt =>
    cases rt with
    | cons h2 rt =>
      cases rt with
      | cons h3 rt =>
        cases rt
        obtain ⟨t1, rfl⟩ := h1
        obtain ⟨t2, rfl⟩ := h2
        unfold datR
        rw [PySem.W.kqdP, PySem.W.kqdPs, PySem.W.kqdPs, PySem.W.kqdPs, PySem.W.kqdPs, PySem.W.kqdP, PySem.W.kqdP]
        exact reads_tuple_at et ct dt (.cons (.int _ _) (.cons (.int _ _) (.cons (reads_mark m h3) .nil)))
theorem reads_rows {ps : List Addr} {rs : List RowV} (I : Inv X pins σ H s) (h : RowsP H ps rs) : ReadsAll s.heap (ps.map Value.ref) (PySem.W.kqdPs (rs.map datR)) [] := by
  unfold RowsP at h
  induction h with
  | nil => rw [List.map_nil, List.map_nil, PySem.W.kqdPs]; exact .nil
  | @cons p r ps rs a t ih =>
    rw [List.map_cons, List.map_cons, PySem.W.kqdPs]
    exact .cons (reads_row I a.1 a.2) ih
theorem rows_eqv {rs ss : List RowV} (h1 : ∀ r ∈ rs, MarkV r.2.2) (h2 : ∀ r ∈ ss, MarkV r.2.2) {k : Bool} (hk : k = true ↔ rs = ss) : PyData.eqv (.list (PySem.W.kqdPs (rs.map datR))) (.list (PySem.W.kqdPs (ss.map datR))) = k := by
  have q := PySem.W.kqd_eqv 9 (.list (rs.map datR)) (.list (ss.map datR)) 9 (datL_ok rs h1) (datL_ok ss h2)
  rw [PySem.W.kqdP, PySem.W.kqdP, PySem.W.Dat.list.injEq] at q
  by_cases e : rs = ss
  · rw [hk.mpr e]; exact q.mpr (by rw [e])
  · have : k = false := by
      cases k with
      | false => rfl
      | true => exact absurd (hk.mp rfl) e
    rw [this]
    exact Bool.eq_false_iff.mpr fun x => e (datRs_inj h1 h2 (q.mp x))
theorem rows_shaped {rs : List RowV} (h : ∀ r ∈ rs, MarkV r.2.2) : SeqAt.shaped (.list (PySem.W.kqdPs (rs.map datR))) = true := by
  have la := PySem.W.kqd_lay 9 (.list (rs.map datR)) (datL_ok rs h)
  rw [PySem.W.kqdP] at la
  unfold SeqAt.shaped
  rw [la.1, Bool.true_and]
  exact decide_eq_true (Nat.le_trans la.2 (by decide))
end
section
variable {X : Cx}
/-- two lists of rows compared -/
def rEqRows (neg : Bool) : R2 := fun x y H Q => ∃ a b rs ss, x = .ref a ∧ y = .ref b ∧ RowsL H a rs ∧ RowsL H b ss ∧ ∃ k : Bool, (k = true ↔ rs = ss) ∧ Q (.bl (if neg then !k else k)) H
theorem op_eqRows (hu : X.A.units + 64 < cLine) : OpR X (compareOp .Eq) (rEqRows false) := by
  intro pins s σ H x y v u Q I r1 r2 h
  obtain ⟨a, b, rs, ss, rfl, rfl, ⟨ps, ha, pa⟩, ⟨qs, hb, pb⟩, k, hk, q⟩ := h
  cases r1
  cases r2
  obtain ⟨its, n, rv, ho, hz⟩ := I.lst ha
  obtain rfl := vals_refs rv
  obtain ⟨its', n', rv', ho', hz'⟩ := I.lst hb
  obtain rfl := vals_refs rv'
  refine eq_dataH (reads_list_at ho rfl rfl (by simpa using reads_rows I pa)) (reads_list_at ho' rfl rfl (by simpa using reads_rows I pb)) (rows_shaped (rowsP_marks pa)) (rows_shaped (rowsP_marks pb)) hu ?_
  rw [rows_eqv (rowsP_marks pa) (rowsP_marks pb) hk]
  exact ⟨.bl k, H, I, rfl, q⟩
theorem op_neRows (hu : X.A.units + 64 < cLine) : OpR X (compareOp .NotEq) (rEqRows true) := by
  intro pins s σ H x y v u Q I r1 r2 h
  obtain ⟨a, b, rs, ss, rfl, rfl, ⟨ps, ha, pa⟩, ⟨qs, hb, pb⟩, k, hk, q⟩ := h
  cases r1
  cases r2
  obtain ⟨its, n, rv, ho, hz⟩ := I.lst ha
  obtain rfl := vals_refs rv
  obtain ⟨its', n', rv', ho', hz'⟩ := I.lst hb
  obtain rfl := vals_refs rv'
  refine ne_dataH (reads_list_at ho rfl rfl (by simpa using reads_rows I pa)) (reads_list_at ho' rfl rfl (by simpa using reads_rows I pb)) (rows_shaped (rowsP_marks pa)) (rows_shaped (rowsP_marks pb)) hu ?_
  rw [rows_eqv (rowsP_marks pa) (rowsP_marks pb) hk]
  exact ⟨.bl (!k), H, I, rfl, q⟩
end
/-! ### two dicts that tell the same -/
theorem keys_len {κ : Type} [DecidableEq κ] : ∀ {xs ys : List κ}, xs.Nodup → (∀ k ∈ xs, k ∈ ys) → xs.length ≤ ys.length
  | [], _, _, _ => Nat.zero_le _
  | x :: xs, ys, nd, h => by
    obtain ⟨h1, h2⟩ := List.nodup_cons.mp nd
    have hx : x ∈ ys := h x List.mem_cons_self
    have := keys_len (xs := xs) (ys := ys.erase x) h2 fun k hk => (List.mem_erase_of_ne (fun e : k = x => h1 (by rw [← e]; exact hk))).mpr (h k (List.mem_cons_of_mem _ hk))
    have l := List.length_erase_of_mem hx
    have p : 0 < ys.length := List.length_pos_of_mem hx
    rw [List.length_cons]
    omega
theorem valV_len {κ : Type} [DecidableEq κ] {xs ys : List (κ × V)} (n1 : (xs.map (·.1)).Nodup) (n2 : (ys.map (·.1)).Nodup) (h : ∀ k, valV xs k = valV ys k) : xs.length = ys.length := by
  have mem : ∀ {zs : List (κ × V)} {k : κ}, k ∈ zs.map (·.1) → valV zs k ≠ none := fun {zs k} m e => valV_not e m
  have go : ∀ {as bs : List (κ × V)}, (∀ k, valV as k = valV bs k) → ∀ k ∈ as.map (·.1), k ∈ bs.map (·.1) := fun {as bs} hh k hk => by
    cases e : valV bs k with
    | none => exact absurd ((hh k).trans e) (mem hk)
    | some v => exact valV_in e
  have l1 := keys_len n1 (go h)
  have l2 := keys_len n2 (go fun k => (h k).symm)
  rw [List.length_map, List.length_map] at l1 l2
  omega
section
variable {X : Cx}
theorem hits_of {A : Around} {s : Shared} {kb : List (Key × V)} {vb : List (Key × Value)} (rb : KV kb vb) : ∀ {ka : List (Key × V)} {va : List (Key × Value)}, KV ka va → (∀ p ∈ ka, valV kb p.1 = some p.2 ∧ MarkV p.2) → PySem.W.KeqHits A s vb va true := by
  intro ka va ra
  unfold KV at ra
  induction ra with
  | nil => intro _; exact .nil
  | @cons p q ps qs h t ih =>
    intro hh
    obtain ⟨h1, h2⟩ := hh p List.mem_cons_self
    have rv := rb.val p.1
    rw [h1] at rv
    obtain ⟨y, ey, ry⟩ := RelO.some_of rv
    obtain ⟨k, v⟩ := q
    obtain ⟨e1, e2⟩ := h
    have e1 : p.1 = k := e1
    rw [e1] at ey
    have fl : flatV p.2 = true := by
      have m := h2
      cases z : p.2 with
      | non => rfl
      | int i => rfl
      | _ => rw [z] at m; exact m.elim
    have ee : eqV p.2 p.2 = true := by
      have m := h2
      cases z : p.2 with
      | non => rfl
      | int i => simp [eqV]
      | _ => rw [z] at m; exact m.elim
    have q := PySem.W.KeqHits.hit (A := A) (s := s) ey (eqAt_V e2 ry fl fl) (ih fun p hp => hh p (List.mem_cons_of_mem _ hp))
    rw [ee] at q
    exact q
def rEqD : R2 := fun x y H Q => ∃ a b ka kb, x = .ref a ∧ y = .ref b ∧ H a = some (.dK ka) ∧ H b = some (.dK kb) ∧ ka.length = kb.length ∧ (∀ p ∈ ka, valV kb p.1 = some p.2 ∧ MarkV p.2) ∧ Q (.bl true) H
theorem op_eqD (hu : X.A.units < cLine) : OpR X (compareOp .Eq) rEqD := by
  intro pins s σ H x y v u Q I r1 r2 h
  obtain ⟨a, b, ka, kb, rfl, rfl, ha, hb, hl, hh, q⟩ := h
  cases r1
  cases r2
  obtain ⟨_, ha2, va, ra, da⟩ := dk_of I.hok ha
  obtain ⟨_, hb2, vb, rb, db⟩ := dk_of I.hok hb
  refine PySem.W.keq_eq ha2 hb2 da db hu (r := true) (fun _ => hits_of rb ra hh) ?_
  have e : (va.length == vb.length && true) = true := by
    rw [← ra.length, ← rb.length, hl]
    simp
  rw [e]
  exact ⟨.bl true, H, I, rfl, q⟩
end
end L2

set_option Elab.async false
set_option linter.all false
set_option maxRecDepth 100000
set_option maxHeartbeats 4000000
namespace L2
open PySem PySem.Spec PyProof.Rows
/-! ### THE HEAD of a law one of whose defs makes a lambda: the table of that def's code is tracked from the start -/
/-- tracked: the script, known to the object, and the table at P -/
def OnlyT (P : Addr) (H : Hp) : Prop := H P = some (.tbl #[]) ∧ ∀ b, b = P ∨ H b = none ∨ ∃ o xs, H b = some (.frz o (.lst xs))
theorem law_callT {P : Program} {w : World} {K : PySem.W.Frag} {mg mb : Str → Option Value} {k : Nat} {fa a : Addr} {fd : FuncData} {x : Str} {sp : Sp} {s₁ : Shared} {vs : List Value} {ns : List Int} {c T : Addr}
    (KX : K.In s₁.heap) (hns : s₁.heap.Ns mainGlobals mg) (hb : s₁.heap.Ns builtinsNs mb) (hbb : ∀ x : Str, x ≠ "__name__" → mb x = bootBuiltins x) (hlim : s₁.heap.NoLimit) (hg : s₁.gens = #[])
    (hC : PySem.W.CodeHd s₁.heap c T) (hT : s₁.heap.get? T = some (PySem.W.tabObj #[])) (hnt : PySem.W.noTabs K = true) (hB : s₁.heap.BuiltinsAt mg T)
    (ha : s₁.heap.get? a = some { cls := .type "list", data := .seq vs.toArray }) (hi : IntsAre vs ns) (hl : ns.length ≤ sizeLine) (hr : Room k callerA)
    (F : ∀ base : Heap, K.In base → base.Ns mainGlobals mg → PySem.W.CodeHd base c T → base.BuiltinsAt mg T → FnOk P w K mg base CX0 k fa fd [x] sp) (hbind : ∀ (s : Shared) (u : Value), BindsTo s fd ⟨[u], []⟩ [(x, u)])
    (hsp : ∀ H : Hp, OnlyT T H → SqL K H a (ns.map V.int) → sp [.ref a] H (fun v _ => v = .bl true) fun _ _ _ => False) :
    codeAny (model P w) callerA (.call (.ref fa) ⟨[.ref a], []⟩) (fun r s' => r = .ok (.ret (.bool true)) ∧ OldK s₁.heap s'.heap ∧ s'.os = s₁.os ∧ AllBare s'.gens) s₁ := by
  have rv := vals_ints hi
  have lenV := hi.length
  have aT : a ≠ T := fun z => by rw [z, hT] at ha; cases ha
  have core : ∀ H : Hp, OnlyT T H → SqL K H a (ns.map V.int) → HOk P w H s₁.heap → (∀ b, H b ≠ none → b = a ∨ b = T) → (H a ≠ none → K.lookup a = none) →
      codeAny (model P w) callerA (.call (.ref fa) ⟨[.ref a], []⟩) (fun r s' => r = .ok (.ret (.bool true)) ∧ OldK s₁.heap s'.heap ∧ s'.os = s₁.os ∧ AllBare s'.gens) s₁ := by
    intro H hO hS hok hA hK
    have base_of : ∀ {b : Addr} {o : Obj}, s₁.heap.get? b = some o → H b = none → (hidT s₁.heap H).get? b = some o := fun e n => hidT_get e n
    have noA : ∀ {b : Addr} {o : Obj}, s₁.heap.get? b = some o → o ≠ { cls := .type "list", data := .seq vs.toArray } → o ≠ PySem.W.tabObj #[] → H b = none := fun {b o} e d1 d2 => by
      cases q : H b with
      | none => rfl
      | some u =>
        rcases hA b (by rw [q]; simp) with z | z
        · subst z
          rw [ha] at e; cases e
          exact absurd rfl d1
        · subst z
          rw [hT] at e; cases e
          exact absurd rfl d2
    have nsK : ∀ {b : Addr} {m : Str → Option Value}, s₁.heap.Ns b m → (hidT s₁.heap H).Ns b m := fun {b m} hh => by
      obtain ⟨o, es, ep, e, d, r⟩ := hh
      exact ⟨o, es, ep, base_of e (noA e (fun z => by rw [z] at d; cases d) fun z => by rw [z] at d; cases d), d, r⟩
    have hKb : K.In (hidT s₁.heap H) := fun b o e => base_of (KX b o e) (by
      cases q : H b with
      | none => rfl
      | some u =>
        rcases hA b (by rw [q]; simp) with z | z
        · subst z
          rw [hK (by rw [q]; simp)] at e; cases e
        · subst z
          have h1 := KX b o e
          rw [hT] at h1; cases h1
          have h2 := List.all_eq_true.mp hnt (b, PySem.W.tabObj #[]) (PySem.W.mem_of_lookupK e)
          exact absurd (show false = true from h2) Bool.false_ne_true)
    have hM : Mod K mg (hidT s₁.heap H) := ⟨hKb, nsK hns, ⟨mb, nsK hb, hbb⟩, let ⟨mc, h1, h2⟩ := hlim; ⟨mc, nsK h1, h2⟩⟩
    have hCb : PySem.W.CodeHd (hidT s₁.heap H) c T := by
      obtain ⟨o, vs', file, tf, flags, tg, inF, text, tt, e1, e2, r⟩ := hC
      exact ⟨o, vs', file, tf, flags, tg, inF, text, tt, base_of e1 (noA e1 (fun z => by rw [z] at e2; injection e2 with e2; exact absurd e2 (by decide)) fun z => by rw [z] at e2; cases e2), e2, r⟩
    have hBb : (hidT s₁.heap H).BuiltinsAt mg T := by
      obtain ⟨bm, ob, b1, b2, b3, b4, b5, b6, b7⟩ := hB
      exact ⟨bm, ob, b1, b2, b3, b4, base_of b5 (noA b5 (fun z => by rw [z] at b6; injection b6 with b6; exact absurd b6 (by decide)) fun z => by rw [z] at b6; cases b6), b6, b7⟩
    have e0 : Env0 P w K mg (hidT s₁.heap H) callerA [] s₁ H := ⟨rfl, hM, fun b o e => of_hidT e, Nat.le_of_eq (hidT_size _ _), trivial, fun b hb => absurd (show b ∈ ([] : List Addr) from hb) (by simp), hok, .of_eq hg⟩
    refine codeAny_mono ((F _ hKb (nsK hns) hCb hBb).run callerA [] s₁ H ⟨[.ref a], []⟩ [.ref a] [.ref a] _ _ hr e0 (hbind s₁ (.ref a)) (.cons rfl .nil) (hsp H hO hS)) fun r s' h => ?_
    cases r with
    | error e => exact False.elim h
    | ok fl =>
      cases fl with
      | next => exact False.elim h
      | brk => exact False.elim h
      | cont => exact False.elim h
      | ret u =>
        obtain ⟨v, H', os, bare, un, hok', r', q⟩ := h
        have q' : v = .bl true := q
        subst q'
        obtain rfl : u = Value.bool true := r'
        obtain ⟨more, hmore⟩ := un.tbls T #[] hO.1
        have hT' : s'.heap.get? T = some { cls := .none, data := .fields (#[] ++ more) } := hok' T _ hmore
        have kept : ∀ b o, b ≠ T → s₁.heap.get? b = some o → s'.heap.get? b = some o := fun b o nT e => by
          rcases hO.2 b with z | z | ⟨ob, xs, z⟩
          · exact absurd z nT
          · exact un.keep b o e z (by intro z; exact absurd (show b ∈ ([] : List Addr) from z) (by simp)) (by simp)
          · have z2 := un.frzs b ob _ z
            obtain ⟨e1, _⟩ := hok b _ z
            obtain ⟨e2, _⟩ := hok' b _ z2
            rw [e] at e1; cases e1
            exact e2
        refine ⟨rfl, ⟨fun b o e => ?_, fun b o e => ?_⟩, os, bare⟩
        · by_cases z : b = T
          · subst z
            rw [hT] at e; cases e
            exact .inr (.inl ⟨(hC.tab hT).isCodeTable, rfl, #[], more, rfl, hT'⟩)
          · exact .inl (kept b o z e)
        · by_cases z : b = T
          · subst z; exact ⟨_, hT'⟩
          · exact ⟨o, kept b o z e⟩
  cases hk : K.lookup a with
  | some o =>
    have e := KX a o hk
    rw [ha] at e
    cases e
    refine core (fun b => if b = T then some (.tbl #[]) else none) ⟨if_pos rfl, fun b => ?_⟩ (.inr ⟨_, vs.toArray, _, hk, rfl, rfl, rfl, by rw [List.size_toArray, lenV]; exact hl, by simpa using rv⟩) (fun b u z => ?_) (fun b z => ?_) fun z => absurd (if_neg aT) z
    · by_cases hb : b = T
      · exact .inl hb
      · exact .inr (.inl (if_neg hb))
    · by_cases hb : b = T
      · have z' := (if_pos hb).symm.trans z
        cases z'
        rw [hb]
        exact hT
      · have z' := (if_neg hb).symm.trans z
        cases z'
    · by_cases hb : b = T
      · exact .inr hb
      · exact absurd (if_neg hb) z
  | none =>
    refine core (fun b => if b = T then some (.tbl #[]) else if b = a then some (.frz { cls := .type "list", data := .seq vs.toArray } (.lst (ns.map V.int))) else none) ⟨if_pos rfl, fun b => ?_⟩
      (.inl (.inr ⟨{ cls := .type "list", data := .seq vs.toArray }, (if_neg aT).trans (if_pos rfl)⟩)) (fun b u z => ?_) (fun b z => ?_) fun _ => hk
    · by_cases hb : b = T
      · exact .inl hb
      · by_cases hb2 : b = a
        · exact .inr (.inr ⟨_, _, (if_neg hb).trans (if_pos hb2)⟩)
        · exact .inr (.inl ((if_neg hb).trans (if_neg hb2)))
    · by_cases hb : b = T
      · have z' := (if_pos hb).symm.trans z
        cases z'
        rw [hb]
        exact hT
      · by_cases hb2 : b = a
        · have z' := ((if_neg hb).trans (if_pos hb2)).symm.trans z
          cases z'
          subst hb2
          exact ⟨ha, by rw [List.length_map]; exact hl, vs, _, rv, ha⟩
        · have z' := ((if_neg hb).trans (if_neg hb2)).symm.trans z
          cases z'
    · by_cases hb : b = T
      · exact .inr hb
      · by_cases hb2 : b = a
        · exact .inl hb2
        · exact absurd ((if_neg hb).trans (if_neg hb2)) z
theorem walk_ofT {l : PySem.W.OpenLaw} {n k : Nat} {q : Program} {loose : List Str} {XP : (Str → Option Value) → Heap → Prop} {YP : World → Heap → Prop} {d dj : DefRec} {K : Params → PySem.W.Frag} {sp : World → Sp} {x xj : Str} {c T : Addr}
    (hn : l.most = some n) (hn2 : n ≤ sizeLine) (hdf : d.params.defaults = []) (hr : Room k callerA)
    (hY : ∀ (w : World) (h : Heap), YP w h → (K w.params).In h)
    (hrj : (recsOf q).find? (fun e => e.name == xj) = some dj) (htab : ∀ (w : World) (h : Heap), (K w.params).In h → PySem.W.tabIn (K w.params) xj = some (c, T)) (hnt : ∀ (w : World) (h : Heap), (K w.params).In h → PySem.W.noTabs (K w.params) = true)
    (F : ∀ (w : World) (mg : Str → Option Value) (fa : Addr) (h : Heap), (K w.params).In h → h.Ns mainGlobals mg → mg d.name = some (.ref fa) →
      ∃ fd : FuncData, (∀ (s : Shared) (u : Value), BindsTo s fd ⟨[u], []⟩ [(x, u)]) ∧
        ∀ base : Heap, (K w.params).In base → base.Ns mainGlobals mg → PySem.W.CodeHd base c T → base.BuiltinsAt mg T → FnOk l.prog w (K w.params) mg base CX0 k fa fd [x] (sp w))
    (hsp : ∀ (w : World) (H : Hp) (a : Addr) (ns : List Int), ns.length ≤ n → OnlyT T H → SqL (K w.params) H a (ns.map V.int) → sp w [.ref a] H (fun v _ => v = .bl true) fun _ _ _ => False) :
    PySem.W.WalkO q loose XP YP l.row.toRowW d [] (fun f vs => PySem.call f vs) := by
  refine Att.attach_call hn hdf fun w s₀ s₁ mg mb fa o pm cd doc a vs ns G Y ho hd hcd hmg hobj hints hlen hg => ?_
  have KX := hY w _ Y
  obtain ⟨fd, hb, hF⟩ := F w mg fa _ KX G.T.g hmg
  obtain ⟨hC, hT⟩ := PySem.W.tab_of G.T KX hrj (htab w _ KX)
  have hB : s₁.heap.BuiltinsAt mg T := by
    obtain ⟨bm, ob, b1, b2, b3, b4, b5, b6⟩ := G.T.bmain
    refine ⟨bm, ob, b1, b2, fun z => ?_, fun z => ?_, b3, b4, b5, b6⟩
    · obtain ⟨o', es, ep, e, hd', _⟩ := G.T.g
      rw [z, e] at b3; cases b3; rw [hd'] at b6; cases b6
    · rw [z, hT] at b3; cases b3; cases b4
  exact law_callT KX G.T.g G.T.b G.T.builtins G.T.nolimit hg hC hT (hnt w _ KX) hB hobj hints (Nat.le_trans hlen hn2) hr hF hb (fun H hO hS => hsp w H a ns hlen hO hS)
end L2

set_option Elab.async false
set_option linter.all false
set_option maxRecDepth 100000
set_option maxHeartbeats 4000000
namespace Strip
section
variable {M : Type} [DecidableEq M]
/-- a row: first, last, mark -/
abbrev Row (M : Type) := Int × Int × M
def Has (r : Row M) (n : Int) : Prop := r.1 ≤ n ∧ n ≤ r.2.1
instance (r : Row M) (n : Int) : Decidable (Has r n) := by unfold Has; exact inferInstance
/-- what rows tell of a day: the last row that has it -/
def dayOf : List (Row M) → Int → Option M
  | [], _ => none
  | r :: t, n => match dayOf t n with
    | some m => some m
    | none => if Has r n then some r.2.2 else none
theorem dayOf_nil (n : Int) : dayOf ([] : List (Row M)) n = none := rfl
theorem dayOf_append (as bs : List (Row M)) (n : Int) : dayOf (as ++ bs) n = (match dayOf bs n with | some m => some m | none => dayOf as n) := by
  induction as with
  | nil => show dayOf bs n = _; cases dayOf bs n <;> rfl
  | cons r t ih =>
    show (match dayOf (t ++ bs) n with | some m => some m | none => if Has r n then some r.2.2 else none) = _
    rw [ih]
    cases e : dayOf bs n with
    | some m => rfl
    | none => rfl
theorem dayOf_snoc (as : List (Row M)) (r : Row M) (n : Int) : dayOf (as ++ [r]) n = if Has r n then some r.2.2 else dayOf as n := by
  rw [dayOf_append]
  show (match (if Has r n then some r.2.2 else none) with | some m => some m | none => dayOf as n) = _
  by_cases h : Has r n
  · rw [if_pos h, if_pos h]
  · rw [if_neg h, if_neg h]
/-- no day in two rows -/
def Apart (r s : Row M) : Prop := r.2.1 < s.1 ∨ s.2.1 < r.1
theorem Apart.symm {r s : Row M} (h : Apart r s) : Apart s r := h.elim .inr .inl
theorem Apart.not_both {r s : Row M} {n : Int} (h : Apart r s) (h1 : Has r n) (h2 : Has s n) : False := by
  unfold Apart at h; unfold Has at h1 h2; omega
structure Disj (rs : List (Row M)) : Prop where
  ap : rs.Pairwise Apart
  le : ∀ r ∈ rs, r.1 ≤ r.2.1
def Lt (r s : Row M) : Prop := r.2.1 < s.1
structure Rising (rs : List (Row M)) : Prop where
  lt : rs.Pairwise Lt
  le : ∀ r ∈ rs, r.1 ≤ r.2.1
theorem Rising.disj {rs : List (Row M)} (h : Rising rs) : Disj rs := ⟨h.lt.imp fun q => .inl q, h.le⟩
theorem Disj.perm {rs rs' : List (Row M)} (h : Disj rs) (p : rs'.Perm rs) : Disj rs' := by
  refine ⟨?_, fun r hr => h.le r (p.mem_iff.mp hr)⟩
  exact (p.pairwise_iff (fun q => q.symm)).mpr h.ap
theorem dayOf_some {rs : List (Row M)} {n : Int} {m : M} (h : dayOf rs n = some m) : ∃ r ∈ rs, Has r n ∧ r.2.2 = m := by
  induction rs with
  | nil => cases h
  | cons r t ih =>
    have h' : (match dayOf t n with | some m => some m | none => if Has r n then some r.2.2 else none) = some m := h
    cases e : dayOf t n with
    | some m' =>
      rw [e] at h'
      obtain ⟨s, hs, q⟩ := ih (e.trans h')
      exact ⟨s, List.mem_cons_of_mem _ hs, q⟩
    | none =>
      rw [e] at h'
      by_cases hr : Has r n
      · have h2 : (if Has r n then some r.2.2 else none) = some m := h'
        rw [if_pos hr] at h2
        exact ⟨r, List.mem_cons_self, hr, Option.some.inj h2⟩
      · have h2 : (if Has r n then some r.2.2 else none) = some m := h'
        rw [if_neg hr] at h2
        cases h2
theorem dayOf_mem {rs : List (Row M)} {n : Int} {r : Row M} (d : Disj rs) (hr : r ∈ rs) (hn : Has r n) : dayOf rs n = some r.2.2 := by
  induction rs with
  | nil => cases hr
  | cons s t ih =>
    obtain ⟨h1, h2⟩ := List.pairwise_cons.mp d.ap
    have dt : Disj t := ⟨h2, fun q hq => d.le q (List.mem_cons_of_mem _ hq)⟩
    show (match dayOf t n with | some m => some m | none => if Has s n then some s.2.2 else none) = _
    rcases List.mem_cons.mp hr with e | hr
    · subst e
      cases e : dayOf t n with
      | some m =>
        obtain ⟨q, hq, hh, _⟩ := dayOf_some e
        exact ((h1 q hq).not_both hn hh).elim
      | none => exact if_pos hn
    · rw [ih dt hr]
theorem dayOf_none {rs : List (Row M)} {n : Int} (h : ∀ r ∈ rs, ¬ Has r n) : dayOf rs n = none := by
  cases e : dayOf rs n with
  | none => rfl
  | some m =>
    obtain ⟨r, hr, q, _⟩ := dayOf_some e
    exact (h r hr q).elim
theorem dayOf_eq_none {rs : List (Row M)} {n : Int} (d : Disj rs) (h : dayOf rs n = none) : ∀ r ∈ rs, ¬ Has r n := fun r hr q => by
  rw [dayOf_mem d hr q] at h; cases h
/-- two rows' lists whose rows have and tell the same -/
theorem dayOf_perm {rs rs' : List (Row M)} (d : Disj rs) (p : rs'.Perm rs) (n : Int) : dayOf rs' n = dayOf rs n := by
  cases e : dayOf rs n with
  | some m =>
    obtain ⟨r, hr, q, rfl⟩ := dayOf_some e
    exact dayOf_mem (d.perm p) (p.mem_iff.mpr hr) q
  | none => exact dayOf_none fun r hr => dayOf_eq_none d e r (p.mem_iff.mp hr)
/-- neighbours that could be one -/
def Beside (r s : Row M) : Prop := r.2.1 + 1 = s.1 ∧ r.2.2 = s.2.2
instance (r s : Row M) : Decidable (Beside r s) := by unfold Beside; exact inferInstance
structure Tidy (rs : List (Row M)) : Prop where
  up : Rising rs
  no : ∀ (i : Nat) (r s : Row M), rs[i]? = some r → rs[i + 1]? = some s → ¬ Beside r s
theorem tidy_nil : Tidy ([] : List (Row M)) := ⟨⟨List.Pairwise.nil, (fun _ h => nomatch h)⟩, fun i r s h _ => by simp at h⟩
theorem Rising.snoc {as : List (Row M)} {r : Row M} (h : Rising as) (hr : r.1 ≤ r.2.1) (hl : ∀ s ∈ as, s.2.1 < r.1) : Rising (as ++ [r]) := by
  refine ⟨List.pairwise_append.mpr ⟨h.lt, List.pairwise_singleton _ _, fun a ha b hb => ?_⟩, fun s hs => ?_⟩
  · rw [List.mem_singleton.mp hb]; exact hl a ha
  · rcases List.mem_append.mp hs with hs | hs
    · exact h.le s hs
    · rw [List.mem_singleton.mp hs]; exact hr
theorem Rising.init {as : List (Row M)} {r : Row M} (h : Rising (as ++ [r])) : Rising as :=
  ⟨(List.pairwise_append.mp h.lt).1, fun s hs => h.le s (List.mem_append_left _ hs)⟩
theorem Rising.last {as : List (Row M)} {r : Row M} (h : Rising (as ++ [r])) : ∀ s ∈ as, s.2.1 < r.1 := fun s hs =>
  (List.pairwise_append.mp h.lt).2.2 s hs r (List.mem_singleton.mpr rfl)
theorem get_snoc {α : Type} (as : List α) (x : α) (i : Nat) : (as ++ [x])[i]? = if i < as.length then as[i]? else if i = as.length then some x else none := by
  by_cases h : i < as.length
  · rw [if_pos h, List.getElem?_append_left h]
  · rw [if_neg h, List.getElem?_append_right (by omega)]
    by_cases h2 : i = as.length
    · rw [if_pos h2, h2]; simp
    · rw [if_neg h2, List.getElem?_eq_none]; simp; omega
/-- a row is put behind a tidy strip -/
theorem Tidy.snoc {as : List (Row M)} {r : Row M} (h : Tidy as) (hr : r.1 ≤ r.2.1) (hl : ∀ s ∈ as, s.2.1 < r.1) (hn : ∀ s, as[as.length - 1]? = some s → ¬ Beside s r) : Tidy (as ++ [r]) := by
  refine ⟨h.up.snoc hr hl, fun i a b ha hb => ?_⟩
  rw [get_snoc] at ha hb
  by_cases h1 : i + 1 < as.length
  · rw [if_pos h1] at hb
    rw [if_pos (by omega)] at ha
    exact h.no i a b ha hb
  · rw [if_neg h1] at hb
    by_cases h2 : i + 1 = as.length
    · rw [if_pos h2] at hb
      rw [if_pos (by omega)] at ha
      cases hb
      have : as.length - 1 = i := by omega
      exact hn a (by rw [this]; exact ha)
    · rw [if_neg h2] at hb; cases hb
/-- the last row is made longer -/
theorem Tidy.longer {as : List (Row M)} {l r : Row M} (h : Tidy (as ++ [l])) (hr : r.1 ≤ r.2.1) (hb : Beside l r) : Tidy (as ++ [(l.1, r.2.1, r.2.2)]) := by
  have ll := h.up.le l (List.mem_append_right _ (List.mem_singleton.mpr rfl))
  obtain ⟨b1, b2⟩ := hb
  have up : Rising as := h.up.init
  have t : Tidy as := ⟨up, fun i a b ha hb => h.no i a b (by rw [List.getElem?_append_left (List.getElem?_eq_some_iff.mp ha).1]; exact ha) (by rw [List.getElem?_append_left (List.getElem?_eq_some_iff.mp hb).1]; exact hb)⟩
  refine t.snoc (by show l.1 ≤ r.2.1; omega) (fun s hs => h.up.last s hs) fun s hs hb => ?_
  have hlen : as.length - 1 < as.length := (List.getElem?_eq_some_iff.mp hs).1
  refine h.no (as.length - 1) s l (by rw [List.getElem?_append_left hlen]; exact hs) ?_ ⟨hb.1, ?_⟩
  · have : as.length - 1 + 1 = as.length := by omega
    rw [this]; simp
  · show s.2.2 = l.2.2
    rw [b2]; exact hb.2
theorem dayOf_longer {as : List (Row M)} {l r : Row M} (h : Rising (as ++ [l])) (hr : r.1 ≤ r.2.1) (hb : Beside l r) (n : Int) : dayOf (as ++ [(l.1, r.2.1, r.2.2)]) n = dayOf (as ++ [l] ++ [r]) n := by
  have ll := h.le l (List.mem_append_right _ (List.mem_singleton.mpr rfl))
  obtain ⟨b1, b2⟩ := hb
  rw [dayOf_snoc, dayOf_snoc, dayOf_snoc]
  by_cases h1 : Has r n
  · rw [if_pos h1, if_pos]
    unfold Has at h1 ⊢
    dsimp only
    omega
  · rw [if_neg h1]
    by_cases h2 : Has l n
    · rw [if_pos h2, if_pos, b2]
      unfold Has at h2 ⊢
      dsimp only
      omega
    · rw [if_neg h2, if_neg]
      unfold Has at h1 h2 ⊢
      dsimp only
      omega
/-- what holds between two turns of joined -/
structure Joining (pre acc : List (Row M)) : Prop where
  tidy : Tidy acc
  day : ∀ n, dayOf acc n = dayOf pre n
  lo : ∀ k : Int, (∀ r ∈ pre, r.2.1 < k) → ∀ s ∈ acc, s.2.1 < k
  hi : ∀ k : Int, (∀ r ∈ pre, k ≤ r.1) → ∀ s ∈ acc, k ≤ s.1
  len : acc.length ≤ pre.length
  mark : ∀ s ∈ acc, ∃ r ∈ pre, s.2.2 = r.2.2
theorem Joining.nil : Joining ([] : List (Row M)) [] := ⟨tidy_nil, fun _ => rfl, (fun _ _ _ h => nomatch h), (fun _ _ _ h => nomatch h), Nat.le_refl _, (fun _ h => nomatch h)⟩
theorem Joining.put {pre acc : List (Row M)} {r : Row M} (J : Joining pre acc) (hr : r.1 ≤ r.2.1) (hp : ∀ s ∈ pre, s.2.1 < r.1) (hn : ∀ s, acc[acc.length - 1]? = some s → ¬ Beside s r) : Joining (pre ++ [r]) (acc ++ [r]) := by
  refine ⟨J.tidy.snoc hr (J.lo _ hp) hn, fun n => ?_, fun k hk s hs => ?_, fun k hk s hs => ?_, by rw [List.length_append, List.length_append]; have := J.len; simp only [List.length_singleton]; omega, fun s hs => ?_⟩
  · rw [dayOf_snoc, dayOf_snoc, J.day]
  · rcases List.mem_append.mp hs with hs | hs
    · exact J.lo k (fun r hr => hk r (List.mem_append_left _ hr)) s hs
    · exact hk s (List.mem_append_right _ hs)
  · rcases List.mem_append.mp hs with hs | hs
    · exact J.hi k (fun r hr => hk r (List.mem_append_left _ hr)) s hs
    · exact hk s (List.mem_append_right _ hs)
  · rcases List.mem_append.mp hs with hs | hs
    · obtain ⟨q, hq, e⟩ := J.mark s hs
      exact ⟨q, List.mem_append_left _ hq, e⟩
    · exact ⟨s, List.mem_append_right _ hs, rfl⟩
theorem Joining.grow {pre as : List (Row M)} {l r : Row M} (J : Joining pre (as ++ [l])) (hr : r.1 ≤ r.2.1) (hb : Beside l r) : Joining (pre ++ [r]) (as ++ [(l.1, r.2.1, r.2.2)]) := by
  refine ⟨J.tidy.longer hr hb, fun n => ?_, fun k hk s hs => ?_, fun k hk s hs => ?_, ?_, fun s hs => ?_⟩
  · rw [dayOf_longer J.tidy.up hr hb, dayOf_snoc, dayOf_snoc pre, J.day]
  · rcases List.mem_append.mp hs with hs | hs
    · exact J.lo k (fun r hr => hk r (List.mem_append_left _ hr)) s (List.mem_append_left _ hs)
    · rw [List.mem_singleton.mp hs]
      exact hk r (List.mem_append_right _ (List.mem_singleton.mpr rfl))
  · rcases List.mem_append.mp hs with hs | hs
    · exact J.hi k (fun r hr => hk r (List.mem_append_left _ hr)) s (List.mem_append_left _ hs)
    · rw [List.mem_singleton.mp hs]
      exact J.hi k (fun r hr => hk r (List.mem_append_left _ hr)) l (List.mem_append_right _ (List.mem_singleton.mpr rfl))
  · have := J.len
    rw [List.length_append] at this ⊢
    rw [List.length_append]
    simp only [List.length_singleton] at this ⊢
    omega
  · rcases List.mem_append.mp hs with hs | hs
    · obtain ⟨q, hq, e⟩ := J.mark s (List.mem_append_left _ hs)
      exact ⟨q, List.mem_append_left _ hq, e⟩
    · rw [List.mem_singleton.mp hs]
      exact ⟨r, List.mem_append_right _ (List.mem_singleton.mpr rfl), rfl⟩
/-- sorted by the first day, rows without a day in common rise -/
theorem rising_of_sorted {rs : List (Row M)} (d : Disj rs) (h : rs.Pairwise fun r s => r.1 ≤ s.1) : Rising rs := by
  refine ⟨?_, d.le⟩
  have := List.Pairwise.and_mem.mp (d.ap.and h)
  refine this.imp fun {r s} q => ?_
  obtain ⟨hr, hs, q1, q2⟩ := q
  have l1 := d.le r hr
  have l2 := d.le s hs
  unfold Apart at q1
  unfold Lt
  omega
/-- first found -/
def markOn : List (Row M) → Int → Option M
  | [], _ => none
  | r :: t, n => if Has r n then some r.2.2 else markOn t n
theorem markOn_eq {rs : List (Row M)} (d : Disj rs) (n : Int) : markOn rs n = dayOf rs n := by
  induction rs with
  | nil => rfl
  | cons r t ih =>
    obtain ⟨h1, h2⟩ := List.pairwise_cons.mp d.ap
    have dt : Disj t := ⟨h2, fun q hq => d.le q (List.mem_cons_of_mem _ hq)⟩
    show (if Has r n then some r.2.2 else markOn t n) = _
    by_cases hr : Has r n
    · rw [if_pos hr, dayOf_mem d List.mem_cons_self hr]
    · rw [if_neg hr, ih dt]
      show dayOf t n = (match dayOf t n with | some m => some m | none => if Has r n then some r.2.2 else none)
      cases dayOf t n with
      | some m => rfl
      | none => exact (if_neg hr).symm
/-- only one tidy strip tells the same -/
theorem tidy_unique : ∀ {as bs : List (Row M)}, Tidy as → Tidy bs → (∀ n, dayOf as n = dayOf bs n) → as = bs := by
  have tail : ∀ {r : Row M} {t : List (Row M)}, Tidy (r :: t) → Tidy t := fun {r t} h =>
    ⟨⟨(List.pairwise_cons.mp h.up.lt).2, fun s hs => h.up.le s (List.mem_cons_of_mem _ hs)⟩, fun i a b ha hb => h.no (i + 1) a b (by simpa using ha) (by simpa using hb)⟩
  have first : ∀ {r : Row M} {t : List (Row M)} {n : Int} {m : M}, Tidy (r :: t) → dayOf (r :: t) n = some m → r.1 ≤ n := fun {r t n m} h e => by
    obtain ⟨s, hs, q, _⟩ := dayOf_some e
    rcases List.mem_cons.mp hs with z | hs
    · rw [← z]; exact q.1
    · have := (List.pairwise_cons.mp h.up.lt).1 s hs
      have l := h.up.le r List.mem_cons_self
      unfold Lt at this; unfold Has at q; omega
  -- the end of the first row
  have ends : ∀ {r s : Row M} {t u : List (Row M)}, Tidy (r :: t) → Tidy (s :: u) → r.1 = s.1 → r.2.2 = s.2.2 → (∀ n, dayOf (r :: t) n = dayOf (s :: u) n) → ¬ r.2.1 < s.2.1 := fun {r s t u} h1 h2 e1 e2 hd hlt => by
    have lr := h1.up.le r List.mem_cons_self
    have hs : dayOf (s :: u) (r.2.1 + 1) = some s.2.2 := dayOf_mem h2.up.disj List.mem_cons_self ⟨by omega, by omega⟩
    rw [← hd] at hs
    obtain ⟨q, hq, hn, hm⟩ := dayOf_some hs
    rcases List.mem_cons.mp hq with z | hq
    · rw [z] at hn; unfold Has at hn; omega
    · cases t with
      | nil => cases hq
      | cons v t' =>
        have lv : r.2.1 < v.1 := (List.pairwise_cons.mp h1.up.lt).1 v List.mem_cons_self
        have lq : v.1 ≤ q.1 := by
          rcases List.mem_cons.mp hq with z | hq
          · rw [z]; exact Int.le_refl _
          · have := (List.pairwise_cons.mp (tail h1).up.lt).1 q hq
            have l := h1.up.le v (List.mem_cons_of_mem _ List.mem_cons_self)
            unfold Lt at this; omega
        have hv : v.1 = r.2.1 + 1 := by unfold Has at hn; omega
        have lv2 := h1.up.le v (List.mem_cons_of_mem _ List.mem_cons_self)
        have dv : dayOf (r :: v :: t') (r.2.1 + 1) = some v.2.2 := dayOf_mem h1.up.disj (List.mem_cons_of_mem _ List.mem_cons_self) ⟨by omega, by omega⟩
        rw [hd, dayOf_mem h2.up.disj List.mem_cons_self (show Has s (r.2.1 + 1) from ⟨by omega, by omega⟩)] at dv
        exact h1.no 0 r v rfl rfl ⟨hv.symm, by rw [e2]; exact Option.some.inj dv⟩
  intro as
  induction as with
  | nil =>
    intro bs _ hb hd
    cases bs with
    | nil => rfl
    | cons s u =>
      have := dayOf_mem hb.up.disj List.mem_cons_self (show Has s s.1 from ⟨Int.le_refl _, hb.up.le s List.mem_cons_self⟩)
      rw [← hd] at this; cases this
  | cons r t ih =>
    intro bs ha hb hd
    cases bs with
    | nil =>
      have := dayOf_mem ha.up.disj List.mem_cons_self (show Has r r.1 from ⟨Int.le_refl _, ha.up.le r List.mem_cons_self⟩)
      rw [hd] at this; cases this
    | cons s u =>
      have d1 := dayOf_mem ha.up.disj List.mem_cons_self (show Has r r.1 from ⟨Int.le_refl _, ha.up.le r List.mem_cons_self⟩)
      have d2 := dayOf_mem hb.up.disj List.mem_cons_self (show Has s s.1 from ⟨Int.le_refl _, hb.up.le s List.mem_cons_self⟩)
      have g1 := first hb ((hd _).symm.trans d1)
      have g2 := first ha ((hd _).trans d2)
      have e1 : r.1 = s.1 := by omega
      have e2 : r.2.2 = s.2.2 := by rw [hd, e1, d2] at d1; exact (Option.some.inj d1).symm
      have n1 := ends ha hb e1 e2 hd
      have n2 := ends hb ha e1.symm e2.symm fun n => (hd n).symm
      have e3 : r.2.1 = s.2.1 := by omega
      have er : r = s := by
        obtain ⟨a, b, c⟩ := r; obtain ⟨a', b', c'⟩ := s
        simp only at e1 e2 e3
        rw [e1, e2, e3]
      subst er
      refine congrArg _ (ih (tail ha) (tail hb) fun n => ?_)
      by_cases hn : Has r n
      · have a1 : dayOf t n = none := dayOf_none fun q hq hh => by
          have := (List.pairwise_cons.mp ha.up.lt).1 q hq
          unfold Lt at this; unfold Has at hn hh; omega
        have a2 : dayOf u n = none := dayOf_none fun q hq hh => by
          have := (List.pairwise_cons.mp hb.up.lt).1 q hq
          unfold Lt at this; unfold Has at hn hh; omega
        rw [a1, a2]
      · have c : ∀ l : List (Row M), dayOf (r :: l) n = dayOf l n := fun l => by
          show (match dayOf l n with | some m => some m | none => if Has r n then some r.2.2 else none) = _
          cases dayOf l n with
          | some m => rfl
          | none => exact if_neg hn
        rw [← c t, ← c u]; exact hd n
end
end Strip

namespace L2
open PySem PySem.Spec PyProof.Rows
/-! ### rows in the heap -/
theorem rowsP_len {H : Hp} {ps : List Addr} {rs : List RowV} (h : RowsP H ps rs) : ps.length = rs.length := Paired.length h
theorem rowsP_snoc {H : Hp} {p : Addr} {r : RowV} (hp : H p = some (.tup (tupV r))) (hm : MarkV r.2.2) : ∀ {ps : List Addr} {rs : List RowV}, RowsP H ps rs → RowsP H (ps ++ [p]) (rs ++ [r])
  | _, _, .nil => .cons ⟨hp, hm⟩ .nil
  | _, _, .cons a t => .cons a (rowsP_snoc hp hm t)
theorem rowsP_mono {H H' : Hp} : ∀ {ps : List Addr} {rs : List RowV}, RowsP H ps rs → (∀ p xs, H p = some (.tup xs) → H' p = some (.tup xs)) → RowsP H' ps rs
  | _, _, .nil, _ => .nil
  | _, _, .cons a t, k => .cons ⟨k _ _ a.1, a.2⟩ (rowsP_mono t k)
theorem rowsP_get {H : Hp} {ps : List Addr} {rs : List RowV} (h : RowsP H ps rs) {i : Nat} {p : Addr} (e : ps[i]? = some p) : ∃ r, rs[i]? = some r ∧ H p = some (.tup (tupV r)) ∧ MarkV r.2.2 := paired_get h e
theorem rowsP_last {H : Hp} {l : RowV} : ∀ {as : List RowV} {ps : List Addr}, RowsP H ps (as ++ [l]) → ∃ qs pl, ps = qs ++ [pl] ∧ RowsP H qs as ∧ H pl = some (.tup (tupV l)) ∧ MarkV l.2.2
  | [], _, .cons a t => by cases t; exact ⟨[], _, rfl, .nil, a.1, a.2⟩
  | _ :: _, _, .cons a t => by
    obtain ⟨qs, pl, e, h1, h2⟩ := rowsP_last t
    exact ⟨_ :: qs, pl, by rw [e]; rfl, .cons a h1, h2⟩
theorem rowsL_mono {H H' : Hp} {a : Addr} {rs : List RowV} (h : RowsL H a rs) (ka : ∀ xs, H a = some (.lst xs) → H' a = some (.lst xs)) (k : ∀ p xs, H p = some (.tup xs) → H' p = some (.tup xs)) : RowsL H' a rs := by
  obtain ⟨ps, e, r⟩ := h
  exact ⟨ps, ka _ e, rowsP_mono r k⟩
theorem rowsL_nil {H : Hp} {a : Addr} (e : H a = some (.lst [])) : RowsL H a [] := ⟨[], e, .nil⟩
theorem rowsL_marks {H : Hp} {a : Addr} {rs : List RowV} (h : RowsL H a rs) : ∀ r ∈ rs, MarkV r.2.2 := by
  obtain ⟨ps, _, r⟩ := h
  exact rowsP_marks r
section
variable {T : Addr} {pos : Pos} {q : Str} {H H' : Hp}
theorem Go.tup (G : Go T pos q H H') (L : LamT T pos q H) {p : Addr} {xs : List V} (e : H p = some (.tup xs)) : H' p = some (.tup xs) := G.at L e fun _ z => by cases z
theorem Go.lst (G : Go T pos q H H') (L : LamT T pos q H) {p : Addr} {xs : List V} (e : H p = some (.lst xs)) : H' p = some (.lst xs) := G.at L e fun _ z => by cases z
theorem Go.dK (G : Go T pos q H H') (L : LamT T pos q H) {p : Addr} {xs : List (Key × V)} (e : H p = some (.dK xs)) : H' p = some (.dK xs) := G.at L e fun _ z => by cases z
theorem Go.rows (G : Go T pos q H H') (L : LamT T pos q H) {a : Addr} {rs : List RowV} (h : RowsL H a rs) : RowsL H' a rs := rowsL_mono h (fun _ e => G.lst L e) fun _ _ e => G.tup L e
theorem Go.seq (G : Go T pos q H H') (L : LamT T pos q H) {K : PySem.W.Frag} {a : Addr} {xs : List V} (h : SqL K H a xs) : SqL K H' a xs := by
  rcases h with (h | ⟨o, h⟩) | h
  · exact .inl (.inl (G.lst L h))
  · exact .inl (.inr ⟨o, G.at L h fun _ z => by cases z⟩)
  · exact .inr h
theorem Go.none (G : Go T pos q H H') {b : Addr} (e : H' b = .none) (n : b ≠ T) : H b = .none := by
  cases z : H b with
  | none => rfl
  | some o => rw [G.same b o n z] at e; cases e
end
theorem perm_lift {α β : Type} {g : α → β} : ∀ {zs ws : List β}, zs.Perm ws → ∀ xs : List α, ws = xs.map g → ∃ ys : List α, ys.Perm xs ∧ zs = ys.map g := by
  intro zs ws h
  induction h with
  | nil =>
    intro xs e
    cases xs with
    | nil => exact ⟨[], .nil, rfl⟩
    | cons _ _ => cases e
  | cons a _ ih =>
    intro xs e
    cases xs with
    | nil => cases e
    | cons x xs =>
      rw [List.map_cons] at e
      injection e with e1 e2
      obtain ⟨ys, p, e3⟩ := ih xs e2
      exact ⟨x :: ys, p.cons x, by rw [List.map_cons, e1, e3]⟩
  | swap a b l =>
    intro xs e
    cases xs with
    | nil => cases e
    | cons x xs =>
      cases xs with
      | nil => cases e
      | cons y xs =>
        rw [List.map_cons, List.map_cons] at e
        injection e with e1 e2
        injection e2 with e2 e3
        exact ⟨y :: x :: xs, .swap x y xs, by rw [List.map_cons, List.map_cons, e1, e2, e3]⟩
  | trans _ _ ih1 ih2 =>
    intro xs e
    obtain ⟨ys, p, e2⟩ := ih2 xs e
    obtain ⟨zs, p2, e3⟩ := ih1 ys e2
    exact ⟨zs, p2.trans p, e3⟩
theorem rowsP_zip {H : Hp} : ∀ {ps : List Addr} {rs : List RowV}, RowsP H ps rs → ∀ z ∈ ps.zip rs, H z.1 = some (.tup (tupV z.2)) ∧ MarkV z.2.2.2
  | _, _, .nil, z, hz => by cases hz
  | _, _, .cons a t, z, hz => by
    rw [List.zip_cons_cons] at hz
    rcases List.mem_cons.mp hz with e | hz
    · rw [e]; exact a
    · exact rowsP_zip t z hz
theorem rowsP_of {H : Hp} : ∀ {ys : List (Addr × RowV)}, (∀ z ∈ ys, H z.1 = some (.tup (tupV z.2)) ∧ MarkV z.2.2.2) → RowsP H (ys.map (·.1)) (ys.map (·.2))
  | [], _ => .nil
  | z :: ys, h => .cons (h z List.mem_cons_self) (rowsP_of fun y hy => h y (List.mem_cons_of_mem _ hy))
/-- the rows that sorted hands on -/
theorem rows_sorted {H : Hp} {ps : List Addr} {rs : List RowV} (h : RowsP H ps rs) {zs : List (Int × Addr)} (p : zs.Perm ((rs.map (·.1)).zip ps)) (s : zs.Pairwise fun a b => a.1 ≤ b.1) :
    ∃ qs ss, RowsP H qs ss ∧ ss.Perm rs ∧ (ss.Pairwise fun r t => r.1 ≤ t.1) ∧ (zs.map fun z => V.ref z.2) = qs.map V.ref := by
  have hl := rowsP_len h
  have e : (rs.map (·.1)).zip ps = (ps.zip rs).map fun z => (z.2.1, z.1) := by
    clear p s hl
    unfold RowsP at h
    induction h with
    | nil => rfl
    | cons _ _ ih => rw [List.map_cons, List.zip_cons_cons, List.zip_cons_cons, List.map_cons, ih]
  rw [e] at p
  obtain ⟨ys, py, ez⟩ := perm_lift p _ rfl
  refine ⟨ys.map (·.1), ys.map (·.2), rowsP_of fun z hz => rowsP_zip h z (py.mem_iff.mp hz), ?_, ?_, ?_⟩
  · have := py.map (·.2)
    rw [List.map_snd_zip (by omega)] at this
    exact this
  · rw [List.pairwise_map]
    rw [ez, List.pairwise_map] at s
    exact s
  · rw [ez, List.map_map, List.map_map]
    rfl
end L2

set_option Elab.async false
set_option linter.all false
set_option maxRecDepth 100000
set_option maxHeartbeats 4000000
namespace L2
open PySem PySem.Spec PyProof.Rows
section
variable {X : Cx}
/-- isinstance(x, T), T a built-in type -/
theorem call_isinst : CallR X (.builtin "isinstance") (fun xs H Q => ∃ x n t b, xs = [x, .ty n] ∧ TyOf X.K H x t ∧ PySem.W.kitOne X.K t (.type n) = some b ∧ Q (.bl b) H) := by
  intro pins s σ H xs us Q I r h
  obtain ⟨x, n, t, b, rfl, ty, e, q⟩ := h
  obtain ⟨u, u2, rfl, rx, rt⟩ := vals2 r
  cases (show u2 = Value.type n from rt)
  exact isinst_ok I rx ty e fun tk => ⟨.bl b, H, I.tok _, rfl, q⟩
end
/-! ### a dict that tells of days -/
structure DayG (kvs : List (Key × V)) (f : Int → Option V) : Prop where
  nd : (kvs.map (·.1)).Nodup
  val : ∀ n : Int, valV kvs (Sum.inl n) = f n
  txt : ∀ x : Str, valV kvs (Sum.inr x) = none
  mark : ∀ p ∈ kvs, MarkV p.2
theorem DayG.nil : DayG [] fun _ => none := ⟨List.nodup_nil, fun _ => rfl, fun _ => rfl, (fun _ h => nomatch h)⟩
theorem keys_putK {κ : Type} [DecidableEq κ] {kvs : List (κ × V)} {k : κ} {v : V} (h : (valV kvs k).isSome = true) : (putK kvs k v).map (·.1) = kvs.map (·.1) := by
  unfold putK
  rw [valV_any, if_pos h, List.map_map]
  refine List.map_congr_left fun p _ => ?_
  show (if p.1 = k then (p.1, v) else p).1 = p.1
  split <;> rfl
theorem mem_putK {κ : Type} [DecidableEq κ] {kvs : List (κ × V)} {k : κ} {v : V} {p : κ × V} (h : p ∈ putK kvs k v) : p ∈ kvs ∨ p.2 = v := by
  unfold putK at h
  split at h
  · obtain ⟨y, hy, e⟩ := List.mem_map.mp h
    by_cases z : y.1 = k
    · rw [if_pos z] at e; exact .inr (by rw [← e])
    · rw [if_neg z] at e; exact .inl (by rw [← e]; exact hy)
  · rcases List.mem_append.mp h with h | h
    · exact .inl h
    · rw [List.mem_singleton.mp h]; exact .inr rfl
theorem DayG.put {kvs : List (Key × V)} {f : Int → Option V} (D : DayG kvs f) (n : Int) {m : V} (hm : MarkV m) : DayG (putK kvs (Sum.inl n) m) (fun x => if x = n then some m else f x) := by
  refine ⟨?_, fun x => ?_, fun x => ?_, fun p hp => ?_⟩
  · cases e : valV kvs (Sum.inl n : Key) with
    | none => exact nd_putK _ D.nd e
    | some v => rw [keys_putK (by rw [e]; rfl)]; exact D.nd
  · rw [valV_put]
    by_cases z : x = n
    · rw [if_pos (by rw [z]), if_pos z]
    · rw [if_neg (fun q => z (Sum.inl.inj q)), if_neg z, D.val]
  · rw [valV_put, if_neg (by intro q; cases q), D.txt]
  · rcases mem_putK hp with h | h
    · exact D.mark p h
    · rw [h]; exact hm
theorem DayG.eq {kvs : List (Key × V)} {f g : Int → Option V} (D : DayG kvs f) (h : ∀ n, f n = g n) : DayG kvs g := ⟨D.nd, fun n => (D.val n).trans (h n), D.txt, D.mark⟩
theorem valV_mem {κ : Type} [DecidableEq κ] : ∀ {kvs : List (κ × V)}, (kvs.map (·.1)).Nodup → ∀ p ∈ kvs, valV kvs p.1 = some p.2
  | [], _, p, h => by cases h
  | x :: r, nd, p, h => by
    rw [List.map_cons] at nd
    obtain ⟨h1, h2⟩ := List.nodup_cons.mp nd
    rcases List.mem_cons.mp h with e | h
    · rw [e, valV_pos rfl]
    · have ne : ¬ x.1 = p.1 := fun z => h1 (by rw [z]; exact List.mem_map_of_mem h)
      rw [valV_neg ne]
      exact valV_mem h2 p h
/-- two such dicts that tell the same are equal -/
theorem DayG.same {ka kb : List (Key × V)} {f : Int → Option V} (A : DayG ka f) (B : DayG kb f) : ka.length = kb.length ∧ ∀ p ∈ ka, valV kb p.1 = some p.2 ∧ MarkV p.2 := by
  have e : ∀ k : Key, valV ka k = valV kb k := fun k => by
    cases k with
    | inl n => rw [A.val, B.val]
    | inr x => rw [A.txt, B.txt]
  exact ⟨valV_len A.nd B.nd e, fun p hp => ⟨by rw [← e]; exact valV_mem A.nd p hp, A.mark p hp⟩⟩
end L2
namespace L2
open PySem PySem.Spec PyProof.Rows
theorem ixN_last (n : Nat) : ixN (n + 1) (-1) = some n := by
  unfold ixN
  rw [if_neg (by decide), if_pos (by omega)]
  congr 1
  omega
/-- a row is appended to a list of rows -/
theorem push_row {H : Hp} {st p : Addr} {as : List Addr} {acc : List RowV} {r : RowV} (hst : H st = some (.lst (as.map V.ref))) (hrs : RowsP H as acc) (np : H p = none) (hm : MarkV r.2.2) :
    RowsL (upd (upd H p (.tup (tupV r))) st (.lst (as.map V.ref ++ [V.ref p]))) st (acc ++ [r]) ∧ ∀ b o, b ≠ st → H b = some o → upd (upd H p (.tup (tupV r))) st (.lst (as.map V.ref ++ [V.ref p])) b = some o := by
  have ps : p ≠ st := fun z => by rw [z, hst] at np; cases np
  have keep : ∀ b o, b ≠ st → H b = some o → upd (upd H p (.tup (tupV r))) st (.lst (as.map V.ref ++ [V.ref p])) b = some o := fun b o n e => by
    rw [upd_ne n, upd_ne (ne_of_none e np)]; exact e
  refine ⟨⟨as ++ [p], ?_, rowsP_snoc ?_ hm (rowsP_mono hrs fun b xs e => keep b _ (ne_of e hst (by intro z; cases z)) e)⟩, keep⟩
  · rw [upd_same, List.map_append]; rfl
  · rw [upd_ne ps, upd_same]
/-- the last row of a list of rows is exchanged -/
theorem swap_row {H : Hp} {st p pl : Addr} {qs : List Addr} {acc : List RowV} {r : RowV} (hst : H st = some (.lst ((qs ++ [pl]).map V.ref))) (hrs : RowsP H qs acc) (np : H p = none) (hm : MarkV r.2.2) :
    RowsL (upd (upd H p (.tup (tupV r))) st (.lst (((qs ++ [pl]).map V.ref).set qs.length (V.ref p)))) st (acc ++ [r]) ∧ ∀ b o, b ≠ st → H b = some o → upd (upd H p (.tup (tupV r))) st (.lst (((qs ++ [pl]).map V.ref).set qs.length (V.ref p))) b = some o := by
  have ps : p ≠ st := fun z => by rw [z, hst] at np; cases np
  have keep : ∀ b o, b ≠ st → H b = some o → upd (upd H p (.tup (tupV r))) st (.lst (((qs ++ [pl]).map V.ref).set qs.length (V.ref p))) b = some o := fun b o n e => by
    rw [upd_ne n, upd_ne (ne_of_none e np)]; exact e
  refine ⟨⟨qs ++ [p], ?_, rowsP_snoc ?_ hm (rowsP_mono hrs fun b xs e => keep b _ (ne_of e hst (by intro z; cases z)) e)⟩, keep⟩
  · rw [upd_same, List.map_append, List.map_append, List.set_append]
    simp
  · rw [upd_ne ps, upd_same]
theorem LamT.row {T : Addr} {pos : Pos} {q : Str} {H : Hp} (L : LamT T pos q H) {st p : Addr} {xs ys zs : List V} (hst : H st = some (.lst xs)) (np : H p = none) : LamT T pos q (upd (upd H p (.tup zs)) st (.lst ys)) := by
  refine (L.upd_new np).upd_own (u := .lst xs) ?_ (fun _ z => by cases z) fun _ z => by cases z
  rw [upd_ne (ne_of_none hst np)]; exact hst
end L2

set_option Elab.async false
set_option linter.all false
set_option maxRecDepth 100000
set_option maxHeartbeats 4000000
namespace Strip
section
variable {M : Type} [DecidableEq M]
/-- rows without a day in common that tell g -/
structure DG (cs : List (Row M)) (g : Int → Option M) : Prop where
  dj : Disj cs
  day : ∀ n, dayOf cs n = g n
theorem DG.nil : DG ([] : List (Row M)) fun _ => none := ⟨⟨List.Pairwise.nil, (fun _ h => nomatch h)⟩, fun _ => rfl⟩
theorem DG.eq {cs : List (Row M)} {g g' : Int → Option M} (h : DG cs g) (e : ∀ n, g n = g' n) : DG cs g' := ⟨h.dj, fun n => (h.day n).trans (e n)⟩
theorem DG.put {cs : List (Row M)} {g : Int → Option M} {c : Row M} (h : DG cs g) (hc : c.1 ≤ c.2.1) (no : ∀ n, Has c n → g n = none) : DG (cs ++ [c]) (fun n => if Has c n then some c.2.2 else g n) := by
  refine ⟨⟨List.pairwise_append.mpr ⟨h.dj.ap, List.pairwise_singleton _ _, fun a ha b hb => ?_⟩, fun s hs => ?_⟩, fun n => ?_⟩
  · rw [List.mem_singleton.mp hb]
    have la := h.dj.le a ha
    unfold Apart
    by_cases h1 : a.2.1 < c.1
    · exact .inl h1
    · by_cases h2 : c.2.1 < a.1
      · exact .inr h2
      · exfalso
        by_cases h3 : a.1 ≤ c.1
        · have := no c.1 ⟨Int.le_refl _, hc⟩
          rw [← h.day, dayOf_mem h.dj ha ⟨h3, by omega⟩] at this
          cases this
        · have := no a.1 ⟨by omega, by omega⟩
          rw [← h.day, dayOf_mem h.dj ha ⟨Int.le_refl _, la⟩] at this
          cases this
  · rcases List.mem_append.mp hs with hs | hs
    · exact h.dj.le s hs
    · rw [List.mem_singleton.mp hs]; exact hc
  · rw [dayOf_snoc, h.day]
/-- a row of rising rows tells nothing of what the ones ahead of it tell -/
theorem Disj.ahead {rs : List (Row M)} (d : Disj rs) {i : Nat} {r : Row M} (e : rs[i]? = some r) {n : Int} (h : Has r n) : dayOf (rs.take i) n = none := by
  refine dayOf_none fun s hs hh => ?_
  obtain ⟨hlt, e2⟩ := List.getElem?_eq_some_iff.mp e
  obtain ⟨j, hj, ej⟩ := List.mem_iff_getElem.mp hs
  rw [List.length_take] at hj
  rw [List.getElem_take] at ej
  have := List.pairwise_iff_getElem.mp d.ap j i (by omega) hlt (by omega)
  rw [ej, e2] at this
  exact this.not_both hh h
theorem take_snoc {α : Type} {rs : List α} {i : Nat} {r : α} (e : rs[i]? = some r) : rs.take (i + 1) = rs.take i ++ [r] := by rw [List.take_add_one, e]; rfl
/-- cut: one row more -/
theorem cut_put {rs cs : List (Row M)} {f l : Int} {i : Nat} {r : Row M} (d : Disj rs) (e : rs[i]? = some r) (hfl : f ≤ l) (h1 : r.1 ≤ l) (h2 : f ≤ r.2.1) {a b : Int} (ha : a = if f > r.1 then f else r.1) (hb : b = if l < r.2.1 then l else r.2.1)
    (D : DG cs fun n => if f ≤ n ∧ n ≤ l then dayOf (rs.take i) n else none) : DG (cs ++ [(a, b, r.2.2)]) (fun n => if f ≤ n ∧ n ≤ l then dayOf (rs.take (i + 1)) n else none) ∧ f ≤ a ∧ b ≤ l := by
  have hr := d.le r (List.mem_of_getElem? e)
  have a1 : f ≤ a ∧ r.1 ≤ a ∧ (a = f ∨ a = r.1) := by rw [ha]; split <;> omega
  have b1 : b ≤ l ∧ b ≤ r.2.1 ∧ (b = l ∨ b = r.2.1) := by rw [hb]; split <;> omega
  refine ⟨(D.put (c := (a, b, r.2.2)) (by show a ≤ b; omega) fun n hn => ?_).eq fun n => ?_, a1.1, b1.1⟩
  · unfold Has at hn
    rw [if_pos (by dsimp only at hn; omega)]
    exact d.ahead e ⟨by dsimp only at hn; omega, by dsimp only at hn; omega⟩
  · rw [take_snoc e, dayOf_snoc]
    by_cases z : f ≤ n ∧ n ≤ l
    · rw [if_pos z, if_pos z]
      by_cases y : Has r n
      · rw [if_pos y, if_pos]
        unfold Has at y ⊢
        dsimp only
        omega
      · rw [if_neg y, if_neg]
        unfold Has at y ⊢
        dsimp only
        omega
    · rw [if_neg z, if_neg z, if_neg]
      unfold Has
      dsimp only
      omega
theorem cut_skip {rs cs : List (Row M)} {f l : Int} {i : Nat} {r : Row M} (e : rs[i]? = some r) (h : ¬ (r.1 ≤ l ∧ f ≤ r.2.1))
    (D : DG cs fun n => if f ≤ n ∧ n ≤ l then dayOf (rs.take i) n else none) : DG cs (fun n => if f ≤ n ∧ n ≤ l then dayOf (rs.take (i + 1)) n else none) := D.eq fun n => by
  rw [take_snoc e, dayOf_snoc]
  by_cases z : f ≤ n ∧ n ≤ l
  · rw [if_pos z, if_pos z, if_neg]
    unfold Has
    omega
  · rw [if_neg z, if_neg z]
/-- filled: what the rows tell up to a day -/
def fillG (z : M) (pre : List (Row M)) (f day : Int) : Int → Option M := fun n => if f ≤ n ∧ n < day then some ((dayOf pre n).getD z) else none
theorem fill_gap {z : M} {pre cs : List (Row M)} {f day e : Int} (D : DG cs (fillG z pre f day)) (hp : ∀ r ∈ pre, r.2.1 < day) (h0 : f ≤ day) (h : day ≤ e) {e' : Int} (he : e' = e + 1) : DG (cs ++ [(day, e, z)]) (fillG z pre f e') := by
  subst he
  refine (D.put (c := (day, e, z)) h fun n hn => ?_).eq fun n => ?_
  · unfold Has at hn
    exact if_neg (by dsimp only at hn; omega)
  · unfold fillG
    by_cases y : Has ((day, e, z) : Row M) n
    · unfold Has at y
      dsimp only at y
      rw [if_pos (show Has ((day, e, z) : Row M) n from y), if_pos (by omega), dayOf_none fun r hr q => ?_]
      · rfl
      · have := hp r hr
        unfold Has at q
        omega
    · rw [if_neg y]
      unfold Has at y
      dsimp only at y
      by_cases x : f ≤ n ∧ n < day
      · rw [if_pos x, if_pos (by omega)]
      · rw [if_neg x, if_neg (by omega)]
theorem fill_row {z : M} {pre cs : List (Row M)} {f : Int} {r : Row M} (D : DG cs (fillG z pre f r.1)) (hr : r.1 ≤ r.2.1) (h0 : f ≤ r.1) {e' : Int} (he : e' = r.2.1 + 1) : DG (cs ++ [r]) (fillG z (pre ++ [r]) f e') := by
  subst he
  refine (D.put hr fun n hn => ?_).eq fun n => ?_
  · unfold Has at hn
    exact if_neg (by omega)
  · unfold fillG
    rw [dayOf_snoc]
    by_cases y : Has r n
    · rw [if_pos y, if_pos y, if_pos]
      · rfl
      · unfold Has at y; omega
    · rw [if_neg y, if_neg y]
      unfold Has at y
      by_cases x : f ≤ n ∧ n < r.1
      · rw [if_pos x, if_pos (by omega)]
      · rw [if_neg x, if_neg (by omega)]
/-- laid: the mark over the stretch, else what the rows tell -/
def laidG (m : M) (rs : List (Row M)) (f l : Int) : Int → Option M := fun n => if f ≤ n ∧ n ≤ l then some m else dayOf rs n
theorem laid_start {m : M} {f l : Int} (h : f ≤ l) : DG [((f, l, m) : Row M)] (laidG m [] f l) := (DG.nil.put (c := (f, l, m)) h fun _ _ => rfl).eq fun n => rfl
/-- the left part of a row -/
def midG (m : M) (rs : List (Row M)) (f l : Int) (r : Row M) : Int → Option M := fun n => if Has r n ∧ n < f then some r.2.2 else laidG m rs f l n
theorem laid_left {m : M} {rs cs : List (Row M)} {f l : Int} {i : Nat} {r : Row M} (d : Disj rs) (e : rs[i]? = some r) (h : r.1 < f) {b : Int} (hb : b = if f - 1 < r.2.1 then f - 1 else r.2.1) (D : DG cs (laidG m (rs.take i) f l)) :
    DG (cs ++ [(r.1, b, r.2.2)]) (midG m (rs.take i) f l r) ∧ b ≤ r.2.1 := by
  have hr := d.le r (List.mem_of_getElem? e)
  have b1 : b ≤ f - 1 ∧ b ≤ r.2.1 ∧ (b = f - 1 ∨ b = r.2.1) := by rw [hb]; split <;> omega
  refine ⟨(D.put (c := (r.1, b, r.2.2)) (by show r.1 ≤ b; omega) fun n hn => ?_).eq fun n => ?_, b1.2.1⟩
  · unfold Has at hn
    dsimp only at hn
    unfold laidG
    rw [if_neg (by omega)]
    exact d.ahead e ⟨by omega, by omega⟩
  · unfold midG
    by_cases y : Has r n ∧ n < f
    · rw [if_pos y, if_pos]
      unfold Has at y ⊢
      dsimp only
      omega
    · rw [if_neg y, if_neg]
      unfold Has at y ⊢
      dsimp only
      omega
theorem laid_noLeft {m : M} {rs cs : List (Row M)} {f l : Int} {i : Nat} {r : Row M} (h : ¬ r.1 < f) (D : DG cs (laidG m (rs.take i) f l)) : DG cs (midG m (rs.take i) f l r) := D.eq fun n => by
  unfold midG
  rw [if_neg]
  unfold Has
  omega
theorem laid_right {m : M} {rs cs : List (Row M)} {f l : Int} {i : Nat} {r : Row M} (d : Disj rs) (e : rs[i]? = some r) (hfl : f ≤ l) (h : l < r.2.1) {a : Int} (ha : a = if l + 1 > r.1 then l + 1 else r.1) (D : DG cs (midG m (rs.take i) f l r)) :
    DG (cs ++ [(a, r.2.1, r.2.2)]) (laidG m (rs.take (i + 1)) f l) ∧ r.1 ≤ a := by
  have hr := d.le r (List.mem_of_getElem? e)
  have a1 : l + 1 ≤ a ∧ r.1 ≤ a ∧ (a = l + 1 ∨ a = r.1) := by rw [ha]; split <;> omega
  refine ⟨(D.put (c := (a, r.2.1, r.2.2)) (by show a ≤ r.2.1; omega) fun n hn => ?_).eq fun n => ?_, a1.2.1⟩
  · unfold Has at hn
    dsimp only at hn
    unfold midG
    rw [if_neg (by omega)]
    unfold laidG
    rw [if_neg (by omega)]
    exact d.ahead e ⟨by omega, by omega⟩
  · unfold midG laidG
    rw [take_snoc e, dayOf_snoc]
    by_cases z : f ≤ n ∧ n ≤ l
    · rw [if_neg (by unfold Has; dsimp only; omega), if_neg (by omega), if_pos z, if_pos z]
    · rw [if_neg z, if_neg z]
      by_cases y : Has r n
      · rw [if_pos y]
        by_cases x : n < f
        · rw [if_neg (by unfold Has; dsimp only; omega), if_pos ⟨y, x⟩]
        · rw [if_pos (by unfold Has at y ⊢; dsimp only; omega)]
      · rw [if_neg y, if_neg (by unfold Has at y ⊢; dsimp only; omega), if_neg (fun q => y q.1)]
theorem laid_noRight {m : M} {rs cs : List (Row M)} {f l : Int} {i : Nat} {r : Row M} (e : rs[i]? = some r) (h : ¬ l < r.2.1) (D : DG cs (midG m (rs.take i) f l r)) : DG cs (laidG m (rs.take (i + 1)) f l) := D.eq fun n => by
  unfold midG laidG
  rw [take_snoc e, dayOf_snoc]
  by_cases z : f ≤ n ∧ n ≤ l
  · rw [if_neg (by omega), if_pos z, if_pos z]
  · rw [if_neg z, if_neg z]
    by_cases y : Has r n
    · rw [if_pos y, if_pos]
      refine ⟨y, ?_⟩
      unfold Has at y
      omega
    · rw [if_neg y, if_neg (fun q => y q.1)]
end
end Strip

set_option Elab.async false
set_option linter.all false
set_option maxRecDepth 100000
set_option maxHeartbeats 4000000
/-! A COMPREHENSION in the layer: one clause, its target a name, tests or none; names of the def that it captures -/
namespace L2
open PySem PySem.Spec PyProof.Rows
/-- the block of a comprehension running: its own names, its own namespace at C, the iterator's records at fp -/
def compX (X : Cx) (scope : Scope) (cl : List (Str × Addr)) (N : List Str) (C : Addr) (fp : List Addr) (s : Shared) (H : Hp) : Cx where
  prog := X.prog
  w := X.w
  K := X.K
  mg := X.mg
  base := X.base
  A := X.A
  N := N
  s₀ := s
  H₀ := H
  env := compEnvC scope cl C X.env
  outer := X.stack
  stack := X.stack
  ex := fp
  fn := fun _ => false
  calm := true
  pn := []
  xe := fun _ _ => False
/-- the values of the captured names -/
def subσ (sub : List Nat) (σ : St) : St := sub.map fun i => (σ[i]?).join
def PTs (X : Cx) (ifs : List Expr) (t : TT) : Prop :=
  ∀ (pins : List (Addr × Obj)) (s : Shared) (σ : St) (H : Hp) (Q : Bool → Hp → Prop), Inv X pins σ H s → t σ H Q →
    wpAny (model X.prog X.w) X.A (forIn ifs true fun c r => if r = true then do let ok ← isTrue c X.env (eval c X.env); pure (ForInStep.yield ok) else pure (ForInStep.yield r)) (TP X pins σ Q) X.xe s
theorem pts_nil {X : Cx} : PTs X [] (fun _ H Q => Q true H) := fun _ _ _ H _ I h => wpAny_tests_nil ⟨H, I, h⟩
theorem pts_one {X : Cx} {c : Expr} {t : TT} (h : PT X c t) : PTs X [c] t := fun pins s σ H Q I q => wpAny_tests_one (h pins s σ H Q I q)
def tComp (wi : TI) (sub : List Nat) (tt : TT) (te : TE) : TE := fun σ H Q => wi σ H fun J H1 => ∀ D, H1 D = none → ∃ W : Nat → Nat → List V → Hp → Prop, (∃ m, W 0 m [] (upd H1 D (.lst []))) ∧ ∀ i m ys H2, W i m ys H2 →
  (J.stop i H2 ∧ Q (.ref D) H2) ∨ (J.go i H2 ∧ ∃ N : List V → Hp → Prop, (∀ ys' H', N ys' H' → ∃ m', m' < m ∧ W (i + 1) m' ys' H') ∧ ∀ v H3, J.yld i H2 v H3 → tt (some v :: subσ sub σ) H3 fun b H4 => if b = true then
    te (some v :: subσ sub σ) H4 fun y H5 => H5 D = some (.lst ys) ∧ ys.length < sizeLine ∧ N (ys ++ [y]) (upd H5 D (.lst (ys ++ [y])))
    else N ys H4)
section
variable {X : Cx}
theorem pe_comp {elt iter : Expr} {x : Str} {px pos : Pos} {ifs : List Expr} {scope : Scope} {cl : List (Str × Addr)} {sub : List Nat} {fv : List Str} {wi : TI} {tt : TT} {te : TE}
    (hc : X.calm = true) (hi : PI X (.Name x px) iter wi) (hclos : closureFor scope X.env = pure cl)
    (hcell : ∀ y ∈ scope.names, y.2 ≠ .cell) (hkind : scope.kind = .function) (hnames : ∀ y ∈ scope.names, y.2 = .local → scope.names.lookup y.1 = some .local) (hx : scope.names.lookup x = some .local)
    (hnd : (x :: fv).Nodup) (hl : sub.length = fv.length) (hsub : ∀ (j : Nat) (i : Nat) (y : Str), sub[j]? = some i → fv[j]? = some y → X.N[i]? = some y ∧ Vis X.env.scope y ∧ X.env.kindOf y ≠ some .local)
    (hvis : ∀ y ∈ fv, (compEnvC scope cl 0 X.env).kindOf y = some .cell ∨ (compEnvC scope cl 0 X.env).kindOf y = some .free)
    (hcl : ∀ y c, cl.lookup y = some c → X.env.cells.lookup y = some c) (hcl2 : ∀ y ∈ fv, cl.lookup y = X.env.cells.lookup y)
    (hhas : ∀ y, ((compEnvC scope cl 0 X.env).kindOf y = some .cell ∨ (compEnvC scope cl 0 X.env).kindOf y = some .free) → ∃ c, cl.lookup y = some c)
    (ht : ∀ C fp s H, PTs (compX X scope cl (x :: fv) C fp s H) ifs tt) (he : ∀ C fp s H, PE (compX X scope cl (x :: fv) C fp s H) elt te)
    (hs : ∀ x, foldedSetIterable iter X.env x = pure x := by intro _; rfl) : PE X (.ListComp elt [⟨.Name x px, iter, ifs, 0⟩] scope pos) (tComp wi sub tt te) := by
  intro pins s σ H Q I h
  rw [eval_ListComp]
  refine wpAny_comprehension_free (use := none) rfl hs hclos hkind hnames ?_
  refine thn (hi pins s σ H _ I h) fun v s1 h1 => thn h1 fun itv s2 h2 => ?_
  obtain ⟨it, fp, tn, J, H2, e, I2, T, st2, f2, h⟩ := h2
  subst e
  refine wpAny_newList ?_ (Nat.zero_le _)
  have nD : H2 s2.heap.objs.size = none := I2.hok.fresh (Nat.le_refl _)
  obtain ⟨W, ⟨m0, w0⟩, turn⟩ := h s2.heap.objs.size nD
  have I3 := I2.lnew (ys := []) (its := []) (t' := s2.toks) .nil (Nat.zero_le _)
  generalize hs3 : ({ s2 with heap := s2.heap.push { cls := .type "list", data := .seq ([] : List Value).toArray }, toks := s2.toks } : Shared) = s3 at I3
  have hDlt : s2.heap.objs.size < s3.heap.objs.size := by rw [← hs3]; show _ < (s2.heap.push _).objs.size; rw [Heap.size_push]; exact Nat.lt_succ_self _
  have old3 : ∀ b o, s2.heap.get? b = some o → s3.heap.get? b = some o := fun b o e => by rw [← hs3]; exact Heap.get?_push_of_some _ e
  generalize hD : s2.heap.objs.size = D at *
  refine wpAny_newFunctionEnv hcell (by intro y hy; simp at hy) (fun h₁ hns hsb => ?_) hkind
  generalize hC : s3.heap.objs.size = C at *
  have kept : ∀ b o, s3.heap.get? b = some o → h₁.get? b = some o := fun b o e => (hsb.2 b (by rw [← hC]; exact Nat.ne_of_lt (Heap.lt_size e))).trans (Heap.get?_push_of_some _ e)
  have nC : upd H2 D (.lst []) C = none := I3.hok.fresh (Nat.le_of_eq hC)
  have fC : FpOk X pins (upd H2 D (.lst [])) C := I3.fpOk (Nat.le_of_eq hC) nC
  have fp3 : ∀ b ∈ fp, b < s2.heap.objs.size := fun b hb => by obtain ⟨o, e, _⟩ := T.obj _ _ st2 b hb; exact Heap.lt_size e
  have fpC : ∀ b ∈ fp, b ≠ C := fun b hb => by rw [← hC]; exact Nat.ne_of_lt (Nat.lt_of_lt_of_le (fp3 b hb) (by rw [hD]; exact Nat.le_of_lt (hC ▸ hDlt)))
  have fpD : ∀ b ∈ fp, b ≠ D := fun b hb => by rw [← hD]; exact Nat.ne_of_lt (fp3 b hb)
  have ok' : (compX X scope cl (x :: fv) C fp s3 (upd H2 D (.lst []))).Ok := by
    refine ⟨I.ok.mod, hkind, I.ok.glob, I.ok.blt, Nat.le_of_eq hC, fun y z c e1 e2 => I.ok.inj y z c (hcl y c e1) (hcl z c e2), fun y hy => hhas y hy, (fun y c e _ => by cases e), fun _ => I.ok.hd hc, I.ok.frames, .inl rfl, fun b hb => ⟨fpC b hb, fun y c e => (f2 b hb).2.2.2.2.1 y c (hcl y c e)⟩, I3.bs, Nat.le_trans I.ok.bsz I3.sz,
      fun b o e hb => ?_, fun b hb hf => ?_, I3.stack, I3.stkFree⟩
    · rcases (f2 b hb).2.2.2.1 with z | z
      · exact I.ok.noex b o e z
      · exact absurd (Nat.lt_of_lt_of_le (Heap.lt_size e) (Nat.le_trans I.ok.bsz z)) (Nat.lt_irrefl _)
    · rcases List.mem_cons.mp (I3.stkSub b hf) with z | z
      · exact (f2 b hb).2.1 z
      · exact (f2 b hb).2.2.1 z
  have lenσ : ∀ v0 : Option V, (v0 :: subσ sub σ).length = (x :: fv).length := fun v0 => by
    show (subσ sub σ).length + 1 = fv.length + 1
    unfold subσ
    rw [List.length_map, hl]
  have I4 : ∀ t', Inv (compX X scope cl (x :: fv) C fp s3 (upd H2 D (.lst []))) [] (none :: subσ sub σ) (upd H2 D (.lst [])) { s3 with heap := h₁, toks := t' } := fun t' => by
    refine ⟨ok', rfl, I3.bare, Un.kept kept, ⟨_, hns, fun i y v e1 e2 e3 => ?_⟩, fun y c e => ?_, nC, fun y c e => I3.freeC y c (hcl y c e), (fun p hp => by cases hp), I3.hok.kept kept, lenσ none⟩
    · cases i with
      | zero => cases e2
      | succ j =>
        have e1 : (x :: fv)[j + 1]? = some y := e1
        have e1 : fv[j]? = some y := by simpa using e1
        have e2 : (subσ sub σ)[j]? = some (some v) := by simpa using e2
        unfold subσ at e2
        rw [List.getElem?_map] at e2
        cases ei : sub[j]? with
        | none => rw [ei] at e2; cases e2
        | some i =>
          rw [ei] at e2
          have e2 : (σ[i]?).join = some v := Option.some.inj e2
          obtain ⟨n1, n2, n3⟩ := hsub j i y ei e1
          have e4 : σ[i]? = some (some v) := by
            cases q : σ[i]? with
            | none => rw [q] at e2; cases e2
            | some w' => rw [q] at e2; cases w' with
              | none => cases e2
              | some v' => cases e2; rfl
          obtain ⟨m, hn, hl'⟩ := I3.loc
          obtain ⟨u, ru, lu⟩ := hl' i y v n1 e4 n2
          refine ⟨u, ru, ?_⟩
          rcases lu with ⟨k1, _⟩ | ⟨k1, c, ec, ic⟩
          · exact absurd k1 n3
          · have hy := List.mem_of_getElem? e1
            exact .inr ⟨hvis y hy, c, (hcl2 y hy).trans ec, ic.keeps kept⟩
    · obtain ⟨v, z⟩ := I3.cell y c (hcl y c e)
      exact ⟨v, z.keeps kept⟩
  -- behind the block: the outer state again
  have back : ∀ {σ' : St} {H' : Hp} {s' : Shared}, Inv (compX X scope cl (x :: fv) C fp s3 (upd H2 D (.lst []))) [] σ' H' s' → Q (.ref D) H' →
      compPost (model X.prog X.w) X.A X.xe none (EP X pins σ Q) (.ref D) C (.ok .next) s' := fun {σ' H' s'} J' q => by
    obtain ⟨m, hm, _⟩ := id J'.loc
    refine ⟨m, hm, fun h' hsb' => ?_⟩
    have hos : s'.os = s3.os := J'.os
    have K1 : Inv X pins σ H' s' := I3.call' (ch := fp) hos J'.base J'.hok J'.bare fun b hb => ⟨(f2 b hb).2.2.2.1, (f2 b hb).2.1, (f2 b hb).2.2.2.2.1, (f2 b hb).2.2.2.2.2⟩
    have K2 := K1.turned (h' := h') (t' := s'.toks) (it := C) (fun b o n e => (hsb'.2 b n).trans e) J'.free fC.2.1 fC.2.2.2.1 fC.2.2.2.2.1 fC.2.2.2.2.2
    exact ⟨.ref D, H', K2, rfl, q⟩
  have stat : ∀ {H' : Hp}, (∀ b ∈ fp, H' b = none) → ∀ b ∈ fp, FpOk (compX X scope cl (x :: fv) C fp s3 (upd H2 D (.lst []))) [] H' b := fun hn b hb =>
    ⟨hn b hb, fpC b hb, ok'.exfs b hb, .inl hb, (ok'.exf b hb).2, (fun p hp => by cases hp)⟩
  have hg : PG (compX X scope cl (x :: fv) C fp s3 (upd H2 D (.lst []))) (.Name x px) (gName 0) := pg_name (i := 0) hnd rfl (.inl (lookup_relabel_local hx)) (.inr (lookup_relabel_local hx))
  have hgo : ∀ v : Value, letOwnedTupleGo (.Name x px) (.ref it) v = pure () := fun _ => rfl
  have loop : ∀ t', codeAny (model X.prog X.w) X.A (.compLoop (.ListComp elt [⟨.Name x px, iter, ifs, 0⟩] scope pos) 0 (.ref it) (.ref D) (compEnvC scope cl C X.env)) (compPost (model X.prog X.w) X.A X.xe none (EP X pins σ Q) (.ref D) C) { s3 with heap := h₁, toks := t' } := fun t' => by
    refine codeAny_compLoop_tests (fun n s' => ∃ (i : Nat) (ys : List V) (H' : Hp) (v0 : Option V), Inv (compX X scope cl (x :: fv) C fp s3 (upd H2 D (.lst []))) [] (v0 :: subσ sub σ) H' s' ∧ tn i s'.heap ∧ (∀ b ∈ fp, H' b = none) ∧ W i n ys H') ?_ m0
      ⟨0, [], _, none, I4 t', T.keep _ _ _ st2 (fun b hb o e => kept b o (old3 b o e)), fun b hb => by rw [upd_ne (fpD b hb)]; exact (f2 b hb).1, w0⟩
    rintro n s5 ⟨i, ys, H5, v0, I5, st5, fr5, w5⟩
    rcases turn i n ys H5 w5 with ⟨stop, q⟩ | ⟨go, NN, hNN, step⟩
    · refine wpAny_mono (T.done (compX X scope cl (x :: fv) C fp s3 (upd H2 D (.lst []))) rfl rfl rfl rfl i [] s5 _ H5 (fun _ _ => False) I5 (stat fr5) st5 stop) (fun r s6 hh => ?_) fun _ _ f => f.elim
      obtain ⟨hr, I6⟩ := hh
      subst hr
      exact back I6 q
    · refine wpAny_mono (T.item (compX X scope cl (x :: fv) C fp s3 (upd H2 D (.lst []))) rfl rfl rfl rfl i [] s5 _ H5 (fun _ _ => False) I5 (stat fr5) st5 go) (fun r s6 hh => ?_) fun _ _ f => f.elim
      obtain ⟨u, hr, h6⟩ := hh
      subst hr
      show wpAny _ _ (assign (.Name x px) (compEnvC scope cl C X.env) u) _ _ _
      rw [hgo] at h6
      rw [← pure_bind () fun _ : Unit => assign (.Name x px) (compEnvC scope cl C X.env) u]
      refine wpAny_bind (wpAny_mono h6 (fun _ s7 hh => ?_) fun _ _ f => f.elim)
      obtain ⟨v, H7, I7, r7, y7, st7, fr7⟩ := hh
      have I7' := I7.pinned (stat fr7) (T.obj _ _ st7)
      refine wpAny_mono (hg _ s7 _ H7 v u (fun σ' H' => σ' = some v :: subσ sub σ ∧ H' = H7) I7' r7 ⟨rfl, rfl⟩) (fun _ s8 hh => ?_) fun _ _ f => f.elim
      obtain ⟨σ8, H8, I8, rfl, rfl⟩ := hh
      have again : ∀ {H9 : Hp} {s9 : Shared} {ys9 : List V} {m9 : Nat}, Inv (compX X scope cl (x :: fv) C fp s3 (upd H2 D (.lst []))) ([] ++ pinsAt fp s7.heap) (some v :: subσ sub σ) H9 s9 → m9 < n → W (i + 1) m9 ys9 H9 →
          ∃ m, m < n ∧ ∃ (i : Nat) (ys : List V) (H' : Hp) (v0 : Option V), Inv (compX X scope cl (x :: fv) C fp s3 (upd H2 D (.lst []))) [] (v0 :: subσ sub σ) H' s9 ∧ tn i s9.heap ∧ (∀ b ∈ fp, H' b = none) ∧ W i m ys H' := fun {H9 s9 ys9 m9} I9 hm w9 => by
        refine ⟨m9, hm, i + 1, ys9, H9, _, I9.unpinned, T.keep _ _ _ st7 fun b hb o e => (I9.pin (b, o) (List.mem_append_right _ (List.mem_append_right _ (mem_pinsAt hb e)))).1, fun b hb => ?_, w9⟩
        obtain ⟨o, e, d⟩ := T.obj _ _ st7 b hb
        exact (I9.pin (b, o) (List.mem_append_right _ (List.mem_append_right _ (mem_pinsAt hb e)))).2.1
      refine wpAny_mono (ht C fp s3 _ _ s8 _ H8 _ I8 (step v H8 y7)) (fun ok s9 hh => ?_) fun _ _ f => f.elim
      obtain ⟨H9, I9, q9⟩ := hh
      cases ok with
      | false =>
        rw [if_neg Bool.false_ne_true] at q9 ⊢
        obtain ⟨m', hm, w'⟩ := hNN _ _ q9
        exact again I9 hm w'
      | true =>
        rw [if_pos rfl] at q9 ⊢
        refine wpAny_mono (he C fp s3 _ _ s9 _ H9 _ I9 q9) (fun xv sa hh => ?_) fun _ _ f => f.elim
        obtain ⟨y, Ha, Ia, ra, hDa, hsz, qa⟩ := hh
        obtain ⟨m', hm, w'⟩ := hNN _ _ qa
        refine wpAny_mono (mt_append (X := compX X scope cl (x :: fv) C fp s3 (upd H2 D (.lst []))) _ sa _ Ha (.ref D) [y] (.ref D) [xv] (fun _ H' => H' = upd Ha D (.lst (ys ++ [y]))) Ia rfl (.cons ra .nil) ⟨D, ys, y, rfl, rfl, hDa, hsz, rfl⟩) (fun _ sb hh => ?_) fun _ _ f => f.elim
        obtain ⟨_, Hb, Ib, _, rfl⟩ := hh
        exact again Ib hm w'
  exact codeAny_compStart_list (loop _) (T.self X.A 0 _ _ _ (T.keep _ _ _ st2 (fun b hb o e => kept b o (old3 b o e))) (loop _))
end
end L2

set_option Elab.async false
set_option linter.all false
set_option maxRecDepth 100000
set_option maxHeartbeats 4000000
namespace Strip
section
variable {M : Type} [DecidableEq M]
/-- a tidy strip that has all days from a to b, with the marks of g -/
structure Full (rs : List (Row M)) (a b : Int) (g : Int → M) : Prop where
  tidy : Tidy rs
  day : ∀ n, dayOf rs n = if a ≤ n ∧ n ≤ b then some (g n) else none
theorem Full.row {rs : List (Row M)} {a b : Int} {g : Int → M} (F : Full rs a b g) {r : Row M} (hr : r ∈ rs) : a ≤ r.1 ∧ r.2.1 ≤ b ∧ ∀ n, Has r n → g n = r.2.2 := by
  have le := F.tidy.up.le r hr
  have at' : ∀ n, Has r n → a ≤ n ∧ n ≤ b ∧ g n = r.2.2 := fun n h => by
    have e := dayOf_mem F.tidy.up.disj hr h
    rw [F.day] at e
    by_cases z : a ≤ n ∧ n ≤ b
    · rw [if_pos z] at e; exact ⟨z.1, z.2, Option.some.inj e⟩
    · rw [if_neg z] at e; cases e
  exact ⟨(at' r.1 ⟨Int.le_refl _, le⟩).1, (at' r.2.1 ⟨le, Int.le_refl _⟩).2.1, fun n h => (at' n h).2.2⟩
theorem up_lt {rs : List (Row M)} (U : Rising rs) {i j : Nat} {r s : Row M} (h : i < j) (e1 : rs[i]? = some r) (e2 : rs[j]? = some s) : r.2.1 < s.1 := by
  have := List.pairwise_iff_getElem.mp U.lt i j (List.getElem?_eq_some_iff.mp e1).1 (List.getElem?_eq_some_iff.mp e2).1 h
  rw [(List.getElem?_eq_some_iff.mp e1).2, (List.getElem?_eq_some_iff.mp e2).2] at this
  exact this
theorem Full.has {rs : List (Row M)} {a b : Int} {g : Int → M} (F : Full rs a b g) {n : Int} (h : a ≤ n ∧ n ≤ b) : ∃ (j : Nat) (r : Row M), rs[j]? = some r ∧ Has r n := by
  have e := F.day n
  rw [if_pos h] at e
  obtain ⟨r, hr, q, _⟩ := dayOf_some e
  obtain ⟨j, hj⟩ := List.getElem?_of_mem hr
  exact ⟨j, r, hj, q⟩
theorem Full.first {rs : List (Row M)} {a b : Int} {g : Int → M} (F : Full rs a b g) {r : Row M} (e : rs[0]? = some r) : r.1 = a := by
  obtain ⟨r1, r2, _⟩ := F.row (List.mem_of_getElem? e)
  have le := F.tidy.up.le r (List.mem_of_getElem? e)
  obtain ⟨j, q, ej, hq⟩ := F.has (n := a) ⟨Int.le_refl _, by omega⟩
  unfold Has at hq
  cases j with
  | zero => rw [e] at ej; cases ej; omega
  | succ j => have := up_lt F.tidy.up (Nat.succ_pos j) e ej; omega
theorem Full.next {rs : List (Row M)} {a b : Int} {g : Int → M} (F : Full rs a b g) {i : Nat} {r s : Row M} (e1 : rs[i]? = some r) (e2 : rs[i + 1]? = some s) : s.1 = r.2.1 + 1 ∧ r.2.2 ≠ s.2.2 := by
  obtain ⟨r1, r2, _⟩ := F.row (List.mem_of_getElem? e1)
  obtain ⟨s1, s2, _⟩ := F.row (List.mem_of_getElem? e2)
  have lr := F.tidy.up.le r (List.mem_of_getElem? e1)
  have ls := F.tidy.up.le s (List.mem_of_getElem? e2)
  have hlt := up_lt F.tidy.up (Nat.lt_succ_self i) e1 e2
  have e : s.1 = r.2.1 + 1 := by
    obtain ⟨j, q, ej, hq⟩ := F.has (n := r.2.1 + 1) ⟨by omega, by omega⟩
    unfold Has at hq
    by_cases h1 : j < i
    · have := up_lt F.tidy.up h1 ej e1; omega
    · by_cases h2 : j = i
      · subst h2; rw [e1] at ej; cases ej; omega
      · by_cases h3 : j = i + 1
        · subst h3; rw [e2] at ej; cases ej; omega
        · have := up_lt F.tidy.up (show i + 1 < j by omega) e2 ej; omega
  exact ⟨e, fun z => F.tidy.no i r s e1 e2 ⟨e.symm, z⟩⟩
theorem Full.last {rs : List (Row M)} {a b : Int} {g : Int → M} (F : Full rs a b g) {i : Nat} {r : Row M} (e1 : rs[i]? = some r) (e2 : rs[i + 1]? = none) : r.2.1 = b := by
  obtain ⟨r1, r2, _⟩ := F.row (List.mem_of_getElem? e1)
  have lr := F.tidy.up.le r (List.mem_of_getElem? e1)
  have hlen := List.getElem?_eq_none_iff.mp e2
  obtain ⟨j, q, ej, hq⟩ := F.has (n := b) ⟨by omega, Int.le_refl _⟩
  have hj := (List.getElem?_eq_some_iff.mp ej).1
  unfold Has at hq
  by_cases h1 : j < i
  · have := up_lt F.tidy.up h1 ej e1; omega
  · have : j = i := by omega
    subst this
    rw [e1] at ej; cases ej; omega
theorem Full.some {rs : List (Row M)} {a b : Int} {g : Int → M} (F : Full rs a b g) (h : a ≤ b) : 0 < rs.length := by
  obtain ⟨j, q, ej, _⟩ := F.has (n := a) ⟨Int.le_refl _, h⟩
  have := (List.getElem?_eq_some_iff.mp ej).1
  omega
/-- rows so far: all days from f up to day -/
structure Part (cs : List (Row M)) (f day : Int) (G : Int → M) : Prop where
  tidy : Tidy cs
  day : ∀ n, dayOf cs n = if f ≤ n ∧ n < day then some (G n) else none
theorem Part.nil {f : Int} {G : Int → M} : Part ([] : List (Row M)) f f G := ⟨tidy_nil, fun n => (if_neg (by omega)).symm⟩
theorem Part.put {cs : List (Row M)} {f day e : Int} {G : Int → M} {m : M} (P : Part cs f day G) (h0 : f ≤ day) (h1 : day ≤ e) (hm : ∀ n, day ≤ n → n ≤ e → G n = m) (hn : day = f ∨ G (day - 1) ≠ m) : Part (cs ++ [(day, e, m)]) f (e + 1) G := by
  have inr : ∀ c ∈ cs, f ≤ c.1 ∧ c.2.1 < day ∧ c.2.2 = G c.2.1 := fun c hc => by
    have le := P.tidy.up.le c hc
    have d1 := dayOf_mem P.tidy.up.disj hc (show Has c c.1 from ⟨Int.le_refl _, le⟩)
    have d2 := dayOf_mem P.tidy.up.disj hc (show Has c c.2.1 from ⟨le, Int.le_refl _⟩)
    rw [P.day] at d1 d2
    by_cases z1 : f ≤ c.1 ∧ c.1 < day
    · by_cases z2 : f ≤ c.2.1 ∧ c.2.1 < day
      · rw [if_pos z2] at d2
        exact ⟨z1.1, z2.2, (Option.some.inj d2).symm⟩
      · rw [if_neg z2] at d2; cases d2
    · rw [if_neg z1] at d1; cases d1
  refine ⟨P.tidy.snoc h1 (fun c hc => (inr c hc).2.1) fun s hs hb => ?_, fun n => ?_⟩
  · have hm' := inr s (List.mem_of_getElem? hs)
    obtain ⟨b1, b2⟩ := hb
    have b1 : s.2.1 + 1 = day := b1
    have b2 : s.2.2 = m := b2
    have le := P.tidy.up.le s (List.mem_of_getElem? hs)
    rcases hn with z | z
    · omega
    · refine z ?_
      rw [← b2, hm'.2.2]
      congr 1
      omega
  · rw [dayOf_snoc, P.day]
    by_cases y : Has ((day, e, m) : Row M) n
    · unfold Has at y
      dsimp only at y
      rw [if_pos (show Has ((day, e, m) : Row M) n from y), if_pos (by omega), hm n y.1 y.2]
    · rw [if_neg y]
      unfold Has at y
      dsimp only at y
      by_cases x : f ≤ n ∧ n < day
      · rw [if_pos x, if_pos (by omega)]
      · rw [if_neg x, if_neg (by omega)]
theorem Part.full {cs : List (Row M)} {f l : Int} {G : Int → M} (P : Part cs f (l + 1) G) : Full cs f l G := ⟨P.tidy, fun n => by
  rw [P.day]
  by_cases x : f ≤ n ∧ n ≤ l
  · rw [if_pos x, if_pos (by omega)]
  · rw [if_neg x, if_neg (by omega)]⟩
theorem Full.unique {rs ss : List (Row M)} {a b : Int} {g h : Int → M} (F : Full rs a b g) (G : Full ss a b h) (e : ∀ n, a ≤ n → n ≤ b → g n = h n) : rs = ss := tidy_unique F.tidy G.tidy fun n => by
  rw [F.day, G.day]
  by_cases x : a ≤ n ∧ n ≤ b
  · rw [if_pos x, if_pos x, e n x.1 x.2]
  · rw [if_neg x, if_neg x]
/-- other marks by an injection -/
theorem dayOf_map {M' : Type} [DecidableEq M'] (φ : M → M') : ∀ (rs : List (Row M)) (n : Int), dayOf (rs.map fun r => ((r.1, r.2.1, φ r.2.2) : Row M')) n = (dayOf rs n).map φ
  | [], _ => rfl
  | r :: t, n => by
    show (match dayOf (t.map fun r => ((r.1, r.2.1, φ r.2.2) : Row M')) n with | some m => some m | none => if Has ((r.1, r.2.1, φ r.2.2) : Row M') n then some (φ r.2.2) else none) = (match dayOf t n with | some m => some m | none => if Has r n then some r.2.2 else none).map φ
    rw [dayOf_map φ t n]
    cases dayOf t n with
    | some m => rfl
    | none =>
      by_cases y : Has r n
      · show (if Has ((r.1, r.2.1, φ r.2.2) : Row M') n then some (φ r.2.2) else none) = (if Has r n then some r.2.2 else none).map φ
        rw [if_pos y, if_pos (show Has ((r.1, r.2.1, φ r.2.2) : Row M') n from y)]; rfl
      · show (if Has ((r.1, r.2.1, φ r.2.2) : Row M') n then some (φ r.2.2) else none) = (if Has r n then some r.2.2 else none).map φ
        rw [if_neg y, if_neg (show ¬ Has ((r.1, r.2.1, φ r.2.2) : Row M') n from y)]; rfl
theorem Full.map {M' : Type} [DecidableEq M'] {rs : List (Row M)} {a b : Int} {g : Int → M} (F : Full rs a b g) (φ : M → M') (inj : ∀ x y, φ x = φ y → x = y) : Full (rs.map fun r => ((r.1, r.2.1, φ r.2.2) : Row M')) a b fun n => φ (g n) := by
  refine ⟨⟨⟨?_, fun r hr => ?_⟩, fun i r s h1 h2 hb => ?_⟩, fun n => ?_⟩
  · rw [List.pairwise_map]; exact F.tidy.up.lt.imp fun q => q
  · obtain ⟨q, hq, rfl⟩ := List.mem_map.mp hr
    exact F.tidy.up.le q hq
  · rw [List.getElem?_map] at h1 h2
    obtain ⟨r', e1, rfl⟩ := Option.map_eq_some_iff.mp h1
    obtain ⟨s', e2, rfl⟩ := Option.map_eq_some_iff.mp h2
    exact F.tidy.no i r' s' e1 e2 ⟨hb.1, inj _ _ hb.2⟩
  · rw [dayOf_map, F.day]
    split <;> rfl
end
end Strip

namespace L2
open PySem PySem.Spec PyProof.Rows
/-! ### data in the heap: None, ints, tuples and lists of such -/
mutual
inductive DatV (H : Hp) : V → PySem.W.Dat → Prop
  | non : DatV H .non .none
  | int (i : Int) : DatV H (.int i) (.int i)
  | str (x : Str) : DatV H (.str x) (.str x)
  | tup {a : Addr} {xs : List V} {ds : List PySem.W.Dat} : H a = some (.tup xs) → DatVs H xs ds → DatV H (.ref a) (.tuple ds)
  | lst {a : Addr} {xs : List V} {ds : List PySem.W.Dat} : H a = some (.lst xs) → DatVs H xs ds → DatV H (.ref a) (.list ds)
inductive DatVs (H : Hp) : List V → List PySem.W.Dat → Prop
  | nil : DatVs H [] []
  | cons {x : V} {d : PySem.W.Dat} {xs : List V} {ds : List PySem.W.Dat} : DatV H x d → DatVs H xs ds → DatVs H (x :: xs) (d :: ds)
end
section
variable {X : Cx} {pins : List (Addr × Obj)} {σ : St} {H : Hp} {s : Shared}
mutual
theorem reads_datV (I : Inv X pins σ H s) : ∀ {x : V} {d : PySem.W.Dat} {u : Value}, DatV H x d → RelV x u → ∃ as, Reads s.heap u (PySem.W.kqdP d) as
  | _, _, u, .non, r => by cases (show u = Value.none from r); rw [PySem.W.kqdP]; exact ⟨_, .none⟩
  | _, _, u, .int i, r => by obtain ⟨t, e⟩ := (show ∃ t, u = Value.int i t from r); subst e; rw [PySem.W.kqdP]; exact ⟨_, .int i t⟩
  | _, _, u, .str x, r => by obtain ⟨t, e⟩ := (show ∃ t, u = Value.str x t from r); subst e; rw [PySem.W.kqdP]; exact ⟨_, .str x t⟩
  | _, _, u, .tup (a := a) e t, r => by
    cases (show u = Value.ref a from r)
    obtain ⟨_, its, rv, o, e1, e2, n, e3⟩ := (show ObjOk X.prog X.w H s.heap a (.tup _) from I.hok a _ e)
    obtain ⟨as, q⟩ := reads_datVs I t rv
    rw [PySem.W.kqdP]
    exact ⟨as, reads_tuple_at e1 e2 e3 (by simpa using q)⟩
  | _, _, u, .lst (a := a) e t, r => by
    cases (show u = Value.ref a from r)
    obtain ⟨_, its, n, rv, e1⟩ := (show ObjOk X.prog X.w H s.heap a (.lst _) from I.hok a _ e)
    obtain ⟨as, q⟩ := reads_datVs I t rv
    rw [PySem.W.kqdP]
    exact ⟨_, reads_list_at e1 rfl rfl (by simpa using q)⟩
theorem reads_datVs (I : Inv X pins σ H s) : ∀ {xs : List V} {ds : List PySem.W.Dat} {us : List Value}, DatVs H xs ds → Vals xs us → ∃ as, ReadsAll s.heap us (PySem.W.kqdPs ds) as
  | _, _, _, .nil, .nil => by rw [PySem.W.kqdPs]; exact ⟨_, .nil⟩
  | _, _, _, .cons d t, .cons r rt => by
    obtain ⟨as, q⟩ := reads_datV I d r
    obtain ⟨bs, p⟩ := reads_datVs I t rt
    rw [PySem.W.kqdPs]
    exact ⟨_, .cons q p⟩
end
end
section
variable {X : Cx}
def rEqDat (neg : Bool) : R2 := fun x y H Q => ∃ d e, DatV H x d ∧ DatV H y e ∧ PySem.W.kqdOk 9 d = true ∧ PySem.W.kqdOk 9 e = true ∧ ∃ k : Bool, (k = true ↔ d = e) ∧ Q (.bl (if neg then !k else k)) H
theorem shaped_dat {d : PySem.W.Dat} (h : PySem.W.kqdOk 9 d = true) : SeqAt.shaped (PySem.W.kqdP d) = true := by
  have la := PySem.W.kqd_lay 9 d h
  unfold SeqAt.shaped
  rw [la.1, Bool.true_and]
  exact decide_eq_true (Nat.le_trans la.2 (by decide))
theorem eqv_dat {d e : PySem.W.Dat} (h1 : PySem.W.kqdOk 9 d = true) (h2 : PySem.W.kqdOk 9 e = true) {k : Bool} (hk : k = true ↔ d = e) : PyData.eqv (PySem.W.kqdP d) (PySem.W.kqdP e) = k := by
  have q := PySem.W.kqd_eqv 9 d e 9 h1 h2
  cases k with
  | true => exact q.mpr (hk.mp rfl)
  | false => exact Bool.eq_false_iff.mpr fun x => by have := hk.mpr (q.mp x); cases this
theorem op_eqDat (hu : X.A.units + 64 < cLine) : OpR X (compareOp .Eq) (rEqDat false) := by
  intro pins s σ H x y v u Q I r1 r2 h
  obtain ⟨d, e, hd, he, kd, ke, k, hk, q⟩ := h
  obtain ⟨as, ra⟩ := reads_datV I hd r1
  obtain ⟨bs, rb⟩ := reads_datV I he r2
  refine eq_dataH ra rb (shaped_dat kd) (shaped_dat ke) hu ?_
  rw [eqv_dat kd ke hk]
  exact ⟨.bl k, H, I, rfl, q⟩
theorem op_neDat (hu : X.A.units + 64 < cLine) : OpR X (compareOp .NotEq) (rEqDat true) := by
  intro pins s σ H x y v u Q I r1 r2 h
  obtain ⟨d, e, hd, he, kd, ke, k, hk, q⟩ := h
  obtain ⟨as, ra⟩ := reads_datV I hd r1
  obtain ⟨bs, rb⟩ := reads_datV I he r2
  refine ne_dataH ra rb (shaped_dat kd) (shaped_dat ke) hu ?_
  rw [eqv_dat kd ke hk]
  exact ⟨.bl (!k), H, I, rfl, q⟩
end
theorem datV_mark {H : Hp} : ∀ {x : V}, MarkV x → DatV H x (datM x)
  | .non, _ => .non
  | .int i, _ => .int i
theorem datM_ok (n : Nat) : ∀ {x : V}, MarkV x → PySem.W.kqdOk n (datM x) = true
  | .non, _ => by cases n <;> rfl
  | .int i, _ => by cases n <;> rfl
/-! ### rows of four -/
abbrev RowW := Int × Int × V × V
def MarkW (r : RowW) : Prop := MarkV r.2.2.1 ∧ MarkV r.2.2.2
def tupW (r : RowW) : List V := [.int r.1, .int r.2.1, r.2.2.1, r.2.2.2]
def RowsQ (H : Hp) (ps : List Addr) (rs : List RowW) : Prop := Paired (fun p r => H p = some (.tup (tupW r)) ∧ MarkW r) ps rs
def RowsW (H : Hp) (a : Addr) (rs : List RowW) : Prop := ∃ ps, H a = some (.lst (ps.map V.ref)) ∧ RowsQ H ps rs
def datW (r : RowW) : PySem.W.Dat := .tuple [.int r.1, .int r.2.1, datM r.2.2.1, datM r.2.2.2]
theorem datW_inj {r s : RowW} (h1 : MarkW r) (h2 : MarkW s) (e : datW r = datW s) : r = s := by
  obtain ⟨a, b, c, d⟩ := r
  obtain ⟨a', b', c', d'⟩ := s
  unfold datW at e
  injection e with e
  injection e with e1 e
  injection e with e2 e
  injection e with e3 e
  injection e with e4 _
  injection e1 with e1
  injection e2 with e2
  have h3 := datM_inj h1.1 h2.1 e3
  have h4 := datM_inj h1.2 h2.2 e4
  simp only at e1 e2 h3 h4
  rw [e1, e2, h3, h4]
theorem rowsQ_marks {H : Hp} : ∀ {ps : List Addr} {rs : List RowW}, RowsQ H ps rs → ∀ r ∈ rs, MarkW r
  | _, _, .nil, r, hr => by cases hr
  | _, _, .cons a t, r, hr => by
    rcases List.mem_cons.mp hr with e | hr
    · rw [e]; exact a.2
    · exact rowsQ_marks t r hr
theorem datWs_inj : ∀ {rs ss : List RowW}, (∀ r ∈ rs, MarkW r) → (∀ r ∈ ss, MarkW r) → rs.map datW = ss.map datW → rs = ss
  | [], [], _, _, _ => rfl
  | [], _ :: _, _, _, e => by cases e
  | _ :: _, [], _, _, e => by cases e
  | r :: rs, s :: ss, h1, h2, e => by
    rw [List.map_cons, List.map_cons] at e
    injection e with e1 e2
    rw [datW_inj (h1 r List.mem_cons_self) (h2 s List.mem_cons_self) e1, datWs_inj (fun r hr => h1 r (List.mem_cons_of_mem _ hr)) (fun r hr => h2 r (List.mem_cons_of_mem _ hr)) e2]
theorem datW_ok {r : RowW} (h : MarkW r) : PySem.W.kqdOk 8 (datW r) = true := by
  show ([PySem.W.Dat.int r.1, .int r.2.1, datM r.2.2.1, datM r.2.2.2].all (PySem.W.kqdOk 7)) = true
  rw [List.all_cons, List.all_cons, List.all_cons, List.all_cons, datM_ok 7 h.1, datM_ok 7 h.2]
  rfl
theorem rowsQ_dat {H : Hp} : ∀ {ps : List Addr} {rs : List RowW}, RowsQ H ps rs → DatVs H (ps.map V.ref) (rs.map datW)
  | _, _, .nil => .nil
  | _, _, .cons a t => .cons (.tup a.1 (.cons (.int _) (.cons (.int _) (.cons (datV_mark a.2.1) (.cons (datV_mark a.2.2) .nil))))) (rowsQ_dat t)
theorem rowsW_dat {H : Hp} {a : Addr} {rs : List RowW} (h : RowsW H a rs) : DatV H (.ref a) (.list (rs.map datW)) ∧ PySem.W.kqdOk 9 (.list (rs.map datW)) = true := by
  obtain ⟨ps, e, q⟩ := h
  refine ⟨.lst e (rowsQ_dat q), ?_⟩
  show (rs.map datW).all (PySem.W.kqdOk 8) = true
  refine List.all_eq_true.mpr fun d hd => ?_
  obtain ⟨r, hr, rfl⟩ := List.mem_map.mp hd
  exact datW_ok (rowsQ_marks q r hr)
theorem rowsW_eq {H : Hp} {a b : Addr} {rs ss : List RowW} (h1 : RowsW H a rs) (h2 : RowsW H b ss) (e : rs = ss) : rEqDat false (.ref a) (.ref b) H (fun v H' => v = .bl true ∧ H' = H) := by
  obtain ⟨d1, k1⟩ := rowsW_dat h1
  obtain ⟨d2, k2⟩ := rowsW_dat h2
  exact ⟨_, _, d1, d2, k1, k2, true, by simp [e], rfl, rfl⟩
theorem rowsQ_len {H : Hp} {ps : List Addr} {rs : List RowW} (h : RowsQ H ps rs) : ps.length = rs.length := Paired.length h
theorem rowsQ_snoc {H : Hp} {p : Addr} {r : RowW} (hp : H p = some (.tup (tupW r))) (hm : MarkW r) : ∀ {ps : List Addr} {rs : List RowW}, RowsQ H ps rs → RowsQ H (ps ++ [p]) (rs ++ [r])
  | _, _, .nil => .cons ⟨hp, hm⟩ .nil
  | _, _, .cons a t => .cons a (rowsQ_snoc hp hm t)
theorem rowsQ_mono {H H' : Hp} : ∀ {ps : List Addr} {rs : List RowW}, RowsQ H ps rs → (∀ p xs, H p = some (.tup xs) → H' p = some (.tup xs)) → RowsQ H' ps rs
  | _, _, .nil, _ => .nil
  | _, _, .cons a t, k => .cons ⟨k _ _ a.1, a.2⟩ (rowsQ_mono t k)
theorem rowsQ_get {H : Hp} {ps : List Addr} {rs : List RowW} (h : RowsQ H ps rs) {i : Nat} {p : Addr} (e : ps[i]? = some p) : ∃ r, rs[i]? = some r ∧ H p = some (.tup (tupW r)) ∧ MarkW r := paired_get h e
theorem Go.rowsW {T : Addr} {pos : Pos} {q : Str} {H H' : Hp} (G : Go T pos q H H') (L : LamT T pos q H) {a : Addr} {rs : List RowW} (h : RowsW H a rs) : RowsW H' a rs := by
  obtain ⟨ps, e, r⟩ := h
  exact ⟨ps, G.lst L e, rowsQ_mono r fun _ _ e => G.tup L e⟩
/-- a row of four is appended -/
theorem push_rowW {H : Hp} {st p : Addr} {as : List Addr} {acc : List RowW} {r : RowW} (hst : H st = some (.lst (as.map V.ref))) (hrs : RowsQ H as acc) (np : H p = none) (hm : MarkW r) :
    RowsW (upd (upd H p (.tup (tupW r))) st (.lst (as.map V.ref ++ [V.ref p]))) st (acc ++ [r]) ∧ ∀ b o, b ≠ st → H b = some o → upd (upd H p (.tup (tupW r))) st (.lst (as.map V.ref ++ [V.ref p])) b = some o := by
  have ps : p ≠ st := fun z => by rw [z, hst] at np; cases np
  have keep : ∀ b o, b ≠ st → H b = some o → upd (upd H p (.tup (tupW r))) st (.lst (as.map V.ref ++ [V.ref p])) b = some o := fun b o n e => by
    rw [upd_ne n, upd_ne (ne_of_none e np)]; exact e
  refine ⟨⟨as ++ [p], ?_, rowsQ_snoc ?_ hm (rowsQ_mono hrs fun b xs e => keep b _ (ne_of e hst (by intro z; cases z)) e)⟩, keep⟩
  · rw [upd_same, List.map_append]; rfl
  · rw [upd_ne ps, upd_same]
theorem rowsP_app {H : Hp} : ∀ {ps qs : List Addr} {rs ss : List RowV}, RowsP H ps rs → RowsP H qs ss → RowsP H (ps ++ qs) (rs ++ ss)
  | _, _, _, _, .nil, h => h
  | _, _, _, _, .cons a t, h => .cons a (rowsP_app t h)
end L2
namespace L2
open PySem PySem.Spec PyProof.Rows
/-- a comprehension over a list that the block leaves as it is -/
theorem comp_list {K : PySem.W.Frag} {a D : Addr} {xs : List V} {σ : St} {sub : List Nat} {tt : TT} {te : TE} {Q : VK} {H : Hp} (Pv : Nat → List V → Hp → Prop) (h0 : Pv 0 [] (upd H D (.lst []))) (hl : ∀ i ys H, i ≤ xs.length → Pv i ys H → SqL K H a xs)
    (hs : ∀ i x ys H, xs[i]? = some x → Pv i ys H → tt (some x :: subσ sub σ) H fun b H4 => if b = true then te (some x :: subσ sub σ) H4 fun y H5 => H5 D = some (.lst ys) ∧ ys.length < sizeLine ∧ Pv (i + 1) (ys ++ [y]) (upd H5 D (.lst (ys ++ [y]))) else Pv (i + 1) ys H4)
    (hd : ∀ ys H, Pv xs.length ys H → Q (.ref D) H) :
    ∃ W : Nat → Nat → List V → Hp → Prop, (∃ m, W 0 m [] (upd H D (.lst []))) ∧ ∀ i m ys H2, W i m ys H2 →
      ((Itl K a).stop i H2 ∧ Q (.ref D) H2) ∨ ((Itl K a).go i H2 ∧ ∃ N : List V → Hp → Prop, (∀ ys' H', N ys' H' → ∃ m', m' < m ∧ W (i + 1) m' ys' H') ∧ ∀ v H3, (Itl K a).yld i H2 v H3 → tt (some v :: subσ sub σ) H3 fun b H4 => if b = true then
        te (some v :: subσ sub σ) H4 fun y H5 => H5 D = some (.lst ys) ∧ ys.length < sizeLine ∧ N (ys ++ [y]) (upd H5 D (.lst (ys ++ [y])))
        else N ys H4) := by
  refine ⟨fun i m ys H => m = xs.length - i ∧ i ≤ xs.length ∧ Pv i ys H, ⟨xs.length, rfl, Nat.zero_le _, h0⟩, ?_⟩
  rintro i m ys H ⟨rfl, hi, p⟩
  have q := hl i ys H hi p
  by_cases hlt : i < xs.length
  · refine .inr ⟨⟨xs, xs[i], q, by simp [hlt]⟩, Pv (i + 1), fun ys' H' p' => ⟨xs.length - (i + 1), by omega, rfl, hlt, p'⟩, fun x H' y => ?_⟩
    obtain ⟨e, y⟩ := y
    subst e
    exact hs i x ys _ (y xs q) p
  · have e : i = xs.length := by omega
    subst e
    exact .inl ⟨⟨xs, q, Nat.le_refl _⟩, hd ys H p⟩
end L2

set_option Elab.async false
set_option linter.all false
set_option maxRecDepth 100000
set_option maxHeartbeats 4000000
/-! A comprehension that captures nothing -/
namespace L2
open PySem PySem.Spec PyProof.Rows
theorem relabel_locals {env : Env} : ∀ {names : List (Str × NameKind)}, (∀ y ∈ names, y.2 = .local) →
    (names.map fun (n, k) => if (k == NameKind.free && env.scope.kind == .function && env.kindOf n == some .cell) then (n, NameKind.cell) else (n, k)) = names
  | [], _ => rfl
  | (n, k) :: r, h => by
    have hk : k = .local := h (n, k) List.mem_cons_self
    subst hk
    rw [List.map_cons, relabel_locals fun y hy => h y (List.mem_cons_of_mem _ hy)]
    rfl
theorem lookup_locals : ∀ {names : List (Str × NameKind)} {y : Str} {k : NameKind}, (∀ y ∈ names, y.2 = .local) → names.lookup y = some k → k = .local
  | [], _, _, _, e => by cases e
  | (n, k') :: r, y, k, h, e => by
    rw [List.lookup_cons] at e
    split at e
    · cases e; exact h (n, k') List.mem_cons_self
    · exact lookup_locals (fun y hy => h y (List.mem_cons_of_mem _ hy)) e
theorem pe_comp0 {X : Cx} {elt iter : Expr} {x : Str} {px pos : Pos} {ifs : List Expr} {scope : Scope} {wi : TI} {tt : TT} {te : TE}
    (hc : X.calm = true) (hi : PI X (.Name x px) iter wi) (hclos : closureFor scope X.env = pure []) (hkind : scope.kind = .function)
    (hall : ∀ y ∈ scope.names, y.2 = .local) (hnames : ∀ y ∈ scope.names, y.2 = .local → scope.names.lookup y.1 = some .local) (hx : scope.names.lookup x = some .local)
    (ht : ∀ C fp s H, PTs (compX X scope [] [x] C fp s H) ifs tt) (he : ∀ C fp s H, PE (compX X scope [] [x] C fp s H) elt te)
    (hs : ∀ x, foldedSetIterable iter X.env x = pure x := by intro _; rfl) : PE X (.ListComp elt [⟨.Name x px, iter, ifs, 0⟩] scope pos) (tComp wi [] tt te) := by
  refine pe_comp (cl := []) (fv := []) hc hi hclos (fun y hy z => by rw [hall y hy] at z; cases z) hkind hnames hx (List.nodup_cons.mpr ⟨(fun h => nomatch h), List.nodup_nil⟩) rfl (fun j i y e => by cases e) (fun y hy => nomatch hy) (fun y c e => by cases e) (fun y hy => nomatch hy) (fun y hy => ?_) ht he hs
  have e : (compEnvC scope [] 0 X.env).kindOf y = scope.names.lookup y := by
    show (scope.names.map _).lookup y = _
    rw [relabel_locals hall]
  rw [e] at hy
  rcases hy with z | z <;> exact absurd (lookup_locals hall z) (by decide)
end L2

set_option Elab.async false
set_option linter.all false
set_option maxRecDepth 100000
set_option maxHeartbeats 4000000
/-! TEXTS: comparisons, methods, int(text), slices, a loop over a text -/
namespace L2
open PySem PySem.Spec PyProof.Rows
section
variable {X : Cx}
theorem op_le_str : OpR X (compareOp .LtE) (fun x y H Q => ∃ i j, x = .str i ∧ y = .str j ∧ Q (.bl (!decide (j.cps.toList < i.cps.toList))) H) := by
  intro pins s σ H x y v u Q I rx ry h
  obtain ⟨i, j, rfl, rfl, q⟩ := h
  obtain ⟨t, rfl⟩ := rx
  obtain ⟨t', rfl⟩ := ry
  exact PySem.P.le_str (fin_bl I q rfl)
/-- x.startswith(y) -/
theorem mt_startswith : MtR X "str.startswith" (fun x xs H Q => ∃ i j, x = .str i ∧ xs = [.str j] ∧ Q (.bl (Txt.startswith i j)) H) := by
  intro pins s σ H x xs v us Q I rx rv h
  obtain ⟨i, j, rfl, rfl, q⟩ := h
  obtain ⟨t, rfl⟩ := rx
  obtain ⟨u, rfl, t', rfl⟩ := vals1 rv
  exact PySem.SC.startswith ⟨.bl _, H, I, rfl, q⟩
/-- x.index(y), y in x -/
theorem mt_index : MtR X "str.index" (fun x xs H Q => ∃ i j k rest, x = .str i ∧ xs = [.str j] ∧ Builtin.Str.occurrences i j 0 i.length 1 = k :: rest ∧ Q (.int (k : Nat)) H) := by
  intro pins s σ H x xs v us Q I rx rv h
  obtain ⟨i, j, k, rest, rfl, rfl, ho, q⟩ := h
  obtain ⟨t, rfl⟩ := rx
  obtain ⟨u, rfl, t', rfl⟩ := vals1 rv
  exact PySem.SC.index ho ⟨.int _, H, I.tok _, ⟨_, rfl⟩, q⟩
/-- int(x) of a text that is a number -/
theorem call_int_text : CallR X (.type "int") (fun xs H Q => ∃ x n, xs = [.str x] ∧ PySem.intText? x = some n ∧ x.length ≤ 640 ∧ Q (.int n) H) := by
  intro pins s σ H xs us Q I r h
  obtain ⟨x, n, rfl, hn, hl, q⟩ := h
  obtain ⟨u, rfl, t, rfl⟩ := vals1 r
  exact PySem.W.KIN.call_text hn hl ⟨.int n, H, I.tok _, ⟨_, rfl⟩, q⟩
/-- x[lo:hi] of a text -/
theorem sl_str : SlR X (fun x lo hi H Q => ∃ z, x = .str z ∧ z.length ≤ sizeLine ∧ Q (.str (Txt.slice z lo hi)) H) := by
  intro pins s σ H x v vl vu lo hi sl Q I rx hs pl pu h
  obtain ⟨z, rfl, hz, q⟩ := h
  obtain ⟨t, rfl⟩ := rx
  refine ⟨"str", _, slot_str_getitem.lookup, typeIs_str s z t, ?_⟩
  have fin : ∀ l u : Option (Int × Tok), vl = partValue l → vu = partValue u → l.map (·.1) = lo → u.map (·.1) = hi →
      wpAny (model X.prog X.w) X.A (getItem (.str z t) (.ref sl)) (EP X pins σ Q) X.xe s := fun l u e1 e2 e3 e4 => by
    subst e1 e2 e3 e4
    refine wpAny_getItem_str_slice (l := l) (u := u) (st := none) hs rfl ?_
    have q2 : ∀ t', EP X pins σ Q (.str (Txt.slice z (l.map (·.1)) (u.map (·.1))) t') s := fun t' => ⟨.str _, H, I, ⟨t', rfl⟩, q⟩
    unfold sliceMade
    unfold Txt.slice at q2
    unfold Txt.slice at q
    by_cases c : ((((none : Option (Int × Tok)).map (·.1)).getD 1 : Int) == 1 && (slicePicked z l u none).length == z.length) = true
    · rw [if_pos c]
      rw [if_pos (show ((1 : Int) == 1 && (Builtin.Str.strSliceIndices (l.map (·.1)) (u.map (·.1)) 1 z.length).length == z.length) = true from c)] at q2
      exact q2 t
    · rw [if_neg c]
      rw [if_neg (show ¬ ((1 : Int) == 1 && (Builtin.Str.strSliceIndices (l.map (·.1)) (u.map (·.1)) 1 z.length).length == z.length) = true from c)] at q
      refine ⟨?_, ⟨.str _, H, I.tok _, ⟨_, rfl⟩, q⟩⟩
      have hle := Txt.slice_le z (l.map (·.1)) (u.map (·.1))
      unfold Txt.slice at hle
      rw [if_neg (show ¬ ((1 : Int) == 1 && (Builtin.Str.strSliceIndices (l.map (·.1)) (u.map (·.1)) 1 z.length).length == z.length) = true from c)] at hle
      exact Nat.le_trans hle hz
  cases pl with
  | none => cases pu with
    | none => exact fin none none rfl rfl rfl rfl
    | int j tj => exact fin none (some (j, tj)) rfl rfl rfl rfl
  | int i ti => cases pu with
    | none => exact fin (some (i, ti)) none rfl rfl rfl rfl
    | int j tj => exact fin (some (i, ti)) (some (j, tj)) rfl rfl rfl rfl
/-- the signs of a text, one after the other -/
def Its (x : Str) : It := ⟨fun i _ => i < x.cps.size, fun i H v H' => H' = H ∧ ∃ c, x.cps[i]? = some c ∧ v = .str ⟨#[c]⟩, fun i _ => x.cps.size ≤ i⟩
theorem turn_ascii {P : Program} {w : World} {K : PySem.W.Frag} {tg : Expr} (x : Str) (t : Tok) (it : Addr) : Turn P w K tg (Its x) [it] it (fun i h => h.IsStrIter it "str_ascii_iterator" x t i) where
  mem := by simp
  obj := fun i h st b hb => by
    have e : b = it := by simpa using hb
    subst e
    obtain ⟨o, e, c, d⟩ := st
    exact ⟨o, e, fun v z => by rw [d] at z; cases z⟩
  keep := fun i h h' st k => let ⟨o, ho, r⟩ := st; ⟨o, k it (by simp) o ho, r⟩
  item := by
    intro X hP hw hK hc i pins s σ H E I hf st hg
    subst hP hw hK
    have hg : i < x.cps.size := hg
    obtain ⟨f0, f1, f2, f3, f4, f5⟩ := hf it (by simp)
    refine wpAny_pyNext_ascii_item st (c := x.cps[i]) (by simp [hg]) fun h' st' sb => ?_
    have I1 : Inv X pins σ H { s with heap := h', toks := s.toks + 1 } := I.turned (fun b o hb e => (sb.2 b hb).trans e) f0 f1 f3 f4 f5
    obtain ⟨o, e, c, d⟩ := id st'
    exact ⟨_, rfl, go_of (s := { s with heap := h', toks := s.toks + 1 }) e c d (by decide) ⟨.str ⟨#[x.cps[i]]⟩, H, I1, ⟨_, rfl⟩, ⟨rfl, _, by simp [hg], rfl⟩, st', fun b hb => (hf b hb).1⟩⟩
  done := by
    intro X hP hw hK hc i pins s σ H E I hf st hg
    subst hP hw hK
    have hg : x.cps.size ≤ i := hg
    obtain ⟨f0, f1, f2, f3, f4, f5⟩ := hf it (by simp)
    exact wpAny_pyNext_ascii_end (I.ok.hd hc) st (by simp; omega) fun h' eb => ⟨rfl, I.turned (t' := s.toks) (fun b o hb e => eb b o hb e) f0 f1 f3 f4 f5⟩
  self := fun _ _ _ _ _ st h => wpAny_pyIter_striter_ascii st h
theorem turn_wide {P : Program} {w : World} {K : PySem.W.Frag} {tg : Expr} (x : Str) (t : Tok) (it : Addr) : Turn P w K tg (Its x) [it] it (fun i h => h.IsStrIter it "str_iterator" x t i) where
  mem := by simp
  obj := fun i h st b hb => by
    have e : b = it := by simpa using hb
    subst e
    obtain ⟨o, e, c, d⟩ := st
    exact ⟨o, e, fun v z => by rw [d] at z; cases z⟩
  keep := fun i h h' st k => let ⟨o, ho, r⟩ := st; ⟨o, k it (by simp) o ho, r⟩
  item := by
    intro X hP hw hK hc i pins s σ H E I hf st hg
    subst hP hw hK
    have hg : i < x.cps.size := hg
    obtain ⟨f0, f1, f2, f3, f4, f5⟩ := hf it (by simp)
    refine wpAny_pyNext_wide_item st (c := x.cps[i]) (by simp [hg]) fun h' st' sb => ?_
    have I1 : Inv X pins σ H { s with heap := h', toks := s.toks + 1 } := I.turned (fun b o hb e => (sb.2 b hb).trans e) f0 f1 f3 f4 f5
    obtain ⟨o, e, c, d⟩ := id st'
    exact ⟨_, rfl, go_of (s := { s with heap := h', toks := s.toks + 1 }) e c d (by decide) ⟨.str ⟨#[x.cps[i]]⟩, H, I1, ⟨_, rfl⟩, ⟨rfl, _, by simp [hg], rfl⟩, st', fun b hb => (hf b hb).1⟩⟩
  done := by
    intro X hP hw hK hc i pins s σ H E I hf st hg
    subst hP hw hK
    have hg : x.cps.size ≤ i := hg
    obtain ⟨f0, f1, f2, f3, f4, f5⟩ := hf it (by simp)
    exact wpAny_pyNext_wide_end (I.ok.hd hc) st (by simp; omega) fun h' eb => ⟨rfl, I.turned (t' := s.toks) (fun b o hb e => eb b o hb e) f0 f1 f3 f4 f5⟩
  self := fun _ _ _ _ _ st h => wpAny_pyIter_striter_wide st h
def iStr (tl : TE) : TI := fun σ H R => tl σ H fun v H1 => ∃ x, v = .str x ∧ R (Its x) H1
/-- for c in x, x a text -/
theorem pi_str {tg l : Expr} {tl : TE} (hl : PE X l tl) : PI X tg l (iStr tl) := by
  intro pins s σ H R I h
  refine thn (hl pins s σ H _ I h) fun v s1 ⟨y, H1, I1, r1, q1⟩ => ?_
  obtain ⟨x, e, q⟩ := q1
  subst e
  obtain ⟨t, rfl⟩ := r1
  have fp : ∀ b ∈ [s1.heap.objs.size], FpOk X pins H1 b := fun b hb => by
    have e : b = s1.heap.objs.size := by simpa using hb
    subst e
    exact I1.fpOk (Nat.le_refl _) (I1.hok.fresh (Nat.le_refl _))
  cases ha : x.cps.all (· < 128)
  · refine wpAny_pyIter_wide ha ?_
    exact ⟨s1.heap.objs.size, [s1.heap.objs.size], _, _, H1, rfl, I1.kept (t' := s1.toks) fun b o e => Heap.get?_push_of_some _ e, turn_wide x t _, ⟨_, Heap.get?_push_size _ rfl, rfl, rfl⟩, fp, q⟩
  · refine wpAny_pyIter_ascii ha ?_
    exact ⟨s1.heap.objs.size, [s1.heap.objs.size], _, _, H1, rfl, I1.kept (t' := s1.toks) fun b o e => Heap.get?_push_of_some _ e, turn_ascii x t _, ⟨_, Heap.get?_push_size _ rfl, rfl, rfl⟩, fp, q⟩
/-- a loop over a text -/
theorem for_str {x : Str} {g : TG} {tb : TS} {D : Ends} {σ : St} {H : Hp} (Pv : Nat → St → Hp → Prop) (h0 : Pv 0 σ H)
    (hs : ∀ i c σ H, x.cps[i]? = some c → Pv i σ H → g (.str ⟨#[c]⟩) σ H fun σ2 H2 => tb { D with nx := Pv (i + 1), ct := Pv (i + 1), bk := D.nx } σ2 H2) (hd : ∀ σ H, Pv x.cps.size σ H → D.nx σ H) :
    ∃ W : Nat → Nat → St → Hp → Prop, (∃ m, W 0 m σ H) ∧ ∀ i m σ H, W i m σ H →
      ((Its x).stop i H ∧ D.nx σ H) ∨ ((Its x).go i H ∧ ∃ N : St → Hp → Prop, (∀ σ' H', N σ' H' → ∃ m', m' < m ∧ W (i + 1) m' σ' H') ∧ ∀ v H', (Its x).yld i H v H' → g v σ H' fun σ2 H2 => tb { D with nx := N, ct := N, bk := D.nx } σ2 H2) := by
  refine ⟨fun i m σ H => m = x.cps.size - i ∧ i ≤ x.cps.size ∧ Pv i σ H, ⟨_, rfl, Nat.zero_le _, h0⟩, ?_⟩
  rintro i m σ H ⟨rfl, hi, p⟩
  by_cases hlt : i < x.cps.size
  · refine .inr ⟨hlt, Pv (i + 1), fun σ' H' p' => ⟨_, by omega, rfl, hlt, p'⟩, fun v H' y => ?_⟩
    obtain ⟨rfl, c, ec, rfl⟩ := y
    exact hs i c σ _ ec p
  · have e : i = x.cps.size := by omega
    subst e
    exact .inl ⟨Nat.le_refl _, hd σ H p⟩
/-- a comprehension over a text -/
theorem comp_str {x : Str} {D : Addr} {σ : St} {sub : List Nat} {tt : TT} {te : TE} {Q : VK} {H : Hp} (Pv : Nat → List V → Hp → Prop) (h0 : Pv 0 [] (upd H D (.lst [])))
    (hs : ∀ i c ys H, x.cps[i]? = some c → Pv i ys H → tt (some (.str ⟨#[c]⟩) :: subσ sub σ) H fun b H4 => if b = true then te (some (.str ⟨#[c]⟩) :: subσ sub σ) H4 fun y H5 => H5 D = some (.lst ys) ∧ ys.length < sizeLine ∧ Pv (i + 1) (ys ++ [y]) (upd H5 D (.lst (ys ++ [y]))) else Pv (i + 1) ys H4)
    (hd : ∀ ys H, Pv x.cps.size ys H → Q (.ref D) H) :
    ∃ W : Nat → Nat → List V → Hp → Prop, (∃ m, W 0 m [] (upd H D (.lst []))) ∧ ∀ i m ys H2, W i m ys H2 →
      ((Its x).stop i H2 ∧ Q (.ref D) H2) ∨ ((Its x).go i H2 ∧ ∃ N : List V → Hp → Prop, (∀ ys' H', N ys' H' → ∃ m', m' < m ∧ W (i + 1) m' ys' H') ∧ ∀ v H3, (Its x).yld i H2 v H3 → tt (some v :: subσ sub σ) H3 fun b H4 => if b = true then
        te (some v :: subσ sub σ) H4 fun y H5 => H5 D = some (.lst ys) ∧ ys.length < sizeLine ∧ N (ys ++ [y]) (upd H5 D (.lst (ys ++ [y])))
        else N ys H4) := by
  refine ⟨fun i m ys H => m = x.cps.size - i ∧ i ≤ x.cps.size ∧ Pv i ys H, ⟨_, rfl, Nat.zero_le _, h0⟩, ?_⟩
  rintro i m ys H ⟨rfl, hi, p⟩
  by_cases hlt : i < x.cps.size
  · refine .inr ⟨hlt, Pv (i + 1), fun ys' H' p' => ⟨_, by omega, rfl, hlt, p'⟩, fun v H' y => ?_⟩
    obtain ⟨rfl, c, ec, rfl⟩ := y
    exact hs i c ys _ ec p
  · have e : i = x.cps.size := by omega
    subst e
    exact .inl ⟨Nat.le_refl _, hd ys H p⟩
end
end L2

set_option Elab.async false
set_option linter.all false
set_option maxRecDepth 100000
set_option maxHeartbeats 4000000
namespace L2
open PySem PySem.Spec PyProof.Rows
section
variable {X : Cx}
/-- all(xs) of a list of truths -/
theorem call_allB (hc : X.calm = true) : CallR X (.builtin "all") (fun xs H Q => ∃ (a : Addr) (bs : List Bool), xs = [.ref a] ∧ SqL X.K H a (bs.map V.bl) ∧ Q (.bl (bs.all id)) H) := by
  intro pins s σ H xs us Q I r h
  obtain ⟨a, bs, rfl, hS, q⟩ := h
  obtain ⟨u, rfl, ru⟩ := vals1 r
  cases (show u = Value.ref a from ru)
  obtain ⟨its, rv, p, hz⟩ := I.list hS
  have hlen := rv.length
  rw [List.length_map] at hlen
  have hne : a ≠ s.heap.objs.size := fun z => by
    obtain ⟨o, e, _⟩ := p.isList
    exact Nat.lt_irrefl _ (z ▸ Heap.lt_size e)
  obtain ⟨f0, f1, f2, f3, f4, f5⟩ := I.fpOk (Nat.le_refl _) (I.hok.fresh (Nat.le_refl _))
  refine call_all_walk (wpAny_pyIter_list p.isList ?_)
  have I1 := fun o => I.kept (h' := s.heap.push o) (t' := s.toks) fun b ob e => Heap.get?_push_of_some _ e
  refine ⟨s.heap.objs.size, _, _, _, _, _, fun i => bs.getD i false, rfl, Walks.list (A := X.A.in1) (I.ok.hd hc) _ a hne its.toArray, ⟨⟨_, Heap.get?_push_size _ rfl, rfl, rfl⟩, p.isList.at fun o e => Heap.get?_push_of_some _ e⟩, ?_, fun h' tk hk => ?_⟩
  · intro i v s' Q' E' hv hQ
    have hv : its[i]? = some v := by simpa using hv
    have hi : i < bs.length := by rw [hlen]; exact (List.getElem?_eq_some_iff.mp hv).1
    obtain ⟨u', hu, ru'⟩ := rv.get (i := i) (x := V.bl bs[i]) (by rw [List.getElem?_map, List.getElem?_eq_getElem hi]; rfl)
    rw [hv] at hu
    cases hu
    cases (show v = Value.bool bs[i] from ru')
    have e : bs.getD i false = bs[i] := by rw [List.getD_eq_getElem?_getD, List.getElem?_eq_getElem hi]; rfl
    have hQ : Q' (bs.getD i false) s' := hQ
    rw [e] at hQ
    exact wpAny_truthy_bool hQ
  · refine ⟨.bl _, H, (I1 _).turned (t' := tk) (fun b o hb e => hk b o (by simpa using hb) e) f0 f1 f3 f4 f5, rfl, ?_⟩
    have e : (List.range its.toArray.size).all (fun i => bs.getD i false) = bs.all id := by
      rw [List.size_toArray, ← hlen]
      rw [Bool.eq_iff_iff, List.all_eq_true, List.all_eq_true]
      constructor
      · intro h b hb
        obtain ⟨i, hi, rfl⟩ := List.getElem_of_mem hb
        have := h i (List.mem_range.mpr hi)
        rw [List.getD_eq_getElem?_getD, List.getElem?_eq_getElem hi] at this
        exact this
      · intro h i hi
        have hi := List.mem_range.mp hi
        rw [List.getD_eq_getElem?_getD, List.getElem?_eq_getElem hi]
        exact h _ (List.getElem_mem hi)
    rw [e]
    exact q
theorem lookup_at {α : Type} : ∀ {l : List (Str × α)} {z : Str} {k : α}, l.lookup z = some k → ∃ p ∈ l, z = p.1 ∧ p.2 = k
  | [], _, _, e => by cases e
  | (n, k') :: r, z, k, e => by
    rw [List.lookup_cons] at e
    split at e
    · rename_i h
      cases e
      exact ⟨(n, k'), List.mem_cons_self, eq_of_beq h, rfl⟩
    · obtain ⟨p, hp, q⟩ := lookup_at e
      exact ⟨p, List.mem_cons_of_mem _ hp, q⟩
/-- a comprehension that captures one name of the def -/
theorem pe_comp1 {elt iter : Expr} {x y : Str} {c : Addr} {i : Nat} {px pos : Pos} {ifs : List Expr} {scope : Scope} {wi : TI} {tt : TT} {te : TE}
    (hc : X.calm = true) (hi : PI X (.Name x px) iter wi) (hclos : closureFor scope X.env = pure [(y, c)]) (hkind : scope.kind = .function)
    (hall : ∀ p ∈ scope.names, p.2 = .local ∨ (p.1 = y ∧ p.2 = .free)) (hnames : ∀ p ∈ scope.names, p.2 = .local → scope.names.lookup p.1 = some .local) (hx : scope.names.lookup x = some .local)
    (hxy : x ≠ y) (hN : X.N[i]? = some y) (hv : Vis X.env.scope y) (hk : X.env.kindOf y ≠ some .local)
    (hvis : (compEnvC scope [(y, c)] 0 X.env).kindOf y = some .cell ∨ (compEnvC scope [(y, c)] 0 X.env).kindOf y = some .free) (hcy : X.env.cells.lookup y = some c)
    (ht : ∀ C fp s H, PTs (compX X scope [(y, c)] [x, y] C fp s H) ifs tt) (he : ∀ C fp s H, PE (compX X scope [(y, c)] [x, y] C fp s H) elt te)
    (hs : ∀ x, foldedSetIterable iter X.env x = pure x := by intro _; rfl) : PE X (.ListComp elt [⟨.Name x px, iter, ifs, 0⟩] scope pos) (tComp wi [i] tt te) := by
  have one : ∀ {z c'}, [(y, c)].lookup z = some c' → z = y ∧ c' = c := fun {z c'} e => by
    obtain ⟨p, hp, e1, e2⟩ := lookup_at e
    cases List.mem_singleton.mp hp
    exact ⟨e1, e2.symm⟩
  have self : [(y, c)].lookup y = some c := by rw [List.lookup_cons]; simp
  refine pe_comp (cl := [(y, c)]) (fv := [y]) hc hi hclos (fun p hp z => ?_) hkind hnames hx ?_ rfl (fun j k z e1 e2 => ?_) (fun z hz => ?_) (fun z c' e => ?_) (fun z hz => ?_) (fun z hz => ?_) ht he hs
  · rcases hall p hp with q | ⟨_, q⟩ <;> rw [q] at z <;> cases z
  · exact List.nodup_cons.mpr ⟨fun h => hxy (List.mem_singleton.mp h), List.nodup_cons.mpr ⟨(fun h => nomatch h), List.nodup_nil⟩⟩
  · cases j with
    | zero => cases e1; cases e2; exact ⟨hN, hv, hk⟩
    | succ j => cases e1
  · cases List.mem_singleton.mp hz
    exact hvis
  · obtain ⟨rfl, rfl⟩ := one e
    exact hcy
  · cases List.mem_singleton.mp hz
    rw [self, hcy]
  · have far : ∀ k, (k = .cell ∨ k = .free) → (compEnvC scope [(y, c)] 0 X.env).kindOf z = some k → ∃ c', [(y, c)].lookup z = some c' := fun k hkk e => by
      obtain ⟨p, hp, e1, e2⟩ := lookup_at (show (scope.names.map _).lookup z = some k from e)
      obtain ⟨⟨n, kk⟩, hq, rfl⟩ := List.mem_map.mp hp
      rcases hall _ hq with q | ⟨q, _⟩
      · have q : kk = .local := q
        subst q
        have e2 : NameKind.local = k := e2
        rcases hkk with r | r <;> rw [r] at e2 <;> cases e2
      · have q : n = y := q
        subst q
        refine ⟨c, ?_⟩
        have : z = n := by
          rw [e1]
          dsimp only
          split <;> rfl
        rw [this]
        exact self
    rcases hz with e | e
    · exact far _ (.inl rfl) e
    · exact far _ (.inr rfl) e
end
end L2

set_option Elab.async false
set_option linter.all false
set_option maxRecDepth 100000
set_option maxHeartbeats 4000000
namespace L2
open PySem PySem.Spec PyProof.Rows
/-! ### a comprehension that captures several names of its def, and may name globals -/
/-- the captured names, from the left: each with its cell and its place in the def -/
inductive Caps (X : Cx) (scope : Scope) (cl0 : List (Str × Addr)) : List (Str × Addr) → List Nat → Prop
  | nil : Caps X scope cl0 [] []
  | cons {y : Str} {c : Addr} {i : Nat} {cl : List (Str × Addr)} {sub : List Nat} (hN : X.N[i]? = some y) (hv : Vis X.env.scope y) (hk : X.env.kindOf y ≠ some .local)
      (hvis : (compEnvC scope cl0 0 X.env).kindOf y = some .cell ∨ (compEnvC scope cl0 0 X.env).kindOf y = some .free) (hc : X.env.cells.lookup y = some c) (t : Caps X scope cl0 cl sub) : Caps X scope cl0 ((y, c) :: cl) (i :: sub)
section
variable {X : Cx} {scope : Scope} {cl0 : List (Str × Addr)}
theorem Caps.len : ∀ {cl : List (Str × Addr)} {sub : List Nat}, Caps X scope cl0 cl sub → sub.length = (cl.map (·.1)).length
  | _, _, .nil => rfl
  | _, _, .cons _ _ _ _ _ t => congrArg (· + 1) t.len
theorem Caps.at : ∀ {cl : List (Str × Addr)} {sub : List Nat}, Caps X scope cl0 cl sub → ∀ (j i : Nat) (y : Str), sub[j]? = some i → (cl.map (·.1))[j]? = some y → X.N[i]? = some y ∧ Vis X.env.scope y ∧ X.env.kindOf y ≠ some .local
  | _, _, .nil, _, _, _, e, _ => by simp at e
  | _, _, .cons hN hv hk _ _ t, j, i, y, e1, e2 => by
    cases j with
    | zero =>
      simp at e1 e2
      subst e1 e2
      exact ⟨hN, hv, hk⟩
    | succ j => exact t.at j i y (by simpa using e1) (by simpa using e2)
theorem Caps.vis : ∀ {cl : List (Str × Addr)} {sub : List Nat}, Caps X scope cl0 cl sub → ∀ y ∈ cl.map (·.1), (compEnvC scope cl0 0 X.env).kindOf y = some .cell ∨ (compEnvC scope cl0 0 X.env).kindOf y = some .free
  | _, _, .nil, _, h => by simp at h
  | _, _, .cons _ _ _ hvis _ t, y, h => by
    rcases List.mem_cons.mp h with e | h
    · rw [e]; exact hvis
    · exact t.vis y h
theorem Caps.cell : ∀ {cl : List (Str × Addr)} {sub : List Nat}, Caps X scope cl0 cl sub → ∀ y c, cl.lookup y = some c → X.env.cells.lookup y = some c
  | _, _, .nil, _, _, h => by cases h
  | _, _, .cons (y := z) (c := d) _ _ _ _ hc t, y, c, h => by
    rw [List.lookup_cons] at h
    split at h
    · rename_i e
      cases h
      rw [eq_of_beq e]
      exact hc
    · exact t.cell y c h
theorem lookup_has {α : Type} : ∀ {l : List (Str × α)} {y : Str}, y ∈ l.map (·.1) → ∃ c, l.lookup y = some c
  | [], _, h => by simp at h
  | (n, k) :: r, y, h => by
    rw [List.lookup_cons]
    split
    · exact ⟨k, rfl⟩
    · rename_i e
      rcases List.mem_cons.mp h with z | z
      · rw [z] at e
        simp at e
      · exact lookup_has z
/-- kinds of names in the comprehension's scope: its own, the top's, the captured ones -/
def CapN (ys : List Str) (p : Str × NameKind) : Prop := p.2 = .local ∨ p.2 = .globalImplicit ∨ (p.1 ∈ ys ∧ p.2 = .free)
instance (ys : List Str) (p : Str × NameKind) : Decidable (CapN ys p) := by unfold CapN; exact inferInstance
theorem pe_compN {elt iter : Expr} {x : Str} {cl : List (Str × Addr)} {sub : List Nat} {px pos : Pos} {ifs : List Expr} {wi : TI} {tt : TT} {te : TE}
    (hc : X.calm = true) (hi : PI X (.Name x px) iter wi) (hclos : closureFor scope X.env = pure cl) (hkind : scope.kind = .function)
    (hall : ∀ p ∈ scope.names, CapN (cl.map (·.1)) p) (hnames : ∀ p ∈ scope.names, p.2 = .local → scope.names.lookup p.1 = some .local) (hx : scope.names.lookup x = some .local)
    (hnd : (x :: cl.map (·.1)).Nodup) (caps : Caps X scope cl cl sub)
    (ht : ∀ C fp s H, PTs (compX X scope cl (x :: cl.map (·.1)) C fp s H) ifs tt) (he : ∀ C fp s H, PE (compX X scope cl (x :: cl.map (·.1)) C fp s H) elt te)
    (hs : ∀ x, foldedSetIterable iter X.env x = pure x := by intro _; rfl) : PE X (.ListComp elt [⟨.Name x px, iter, ifs, 0⟩] scope pos) (tComp wi sub tt te) := by
  refine pe_comp (cl := cl) (fv := cl.map (·.1)) hc hi hclos (fun p hp z => ?_) hkind hnames hx hnd caps.len caps.at caps.vis caps.cell (fun y hy => ?_) (fun z hz => ?_) ht he hs
  · rcases hall p hp with q | q | ⟨_, q⟩ <;> rw [q] at z <;> cases z
  · obtain ⟨c, e⟩ := lookup_has hy
    rw [e, caps.cell y c e]
  · have far : ∀ k, (k = .cell ∨ k = .free) → (compEnvC scope cl 0 X.env).kindOf z = some k → ∃ c', cl.lookup z = some c' := fun k hkk e => by
      obtain ⟨p, hp, e1, e2⟩ := lookup_at (show (scope.names.map _).lookup z = some k from e)
      obtain ⟨⟨n, kk⟩, hq, rfl⟩ := List.mem_map.mp hp
      rcases hall _ hq with q | q | ⟨q, _⟩
      · have q : kk = .local := q
        subst q
        have e2 : NameKind.local = k := e2
        rcases hkk with r | r <;> rw [r] at e2 <;> cases e2
      · have q : kk = .globalImplicit := q
        subst q
        have e2 : NameKind.globalImplicit = k := e2
        rcases hkk with r | r <;> rw [r] at e2 <;> cases e2
      · have q : n ∈ cl.map (·.1) := q
        have : z = n := by
          rw [e1]
          dsimp only
          split <;> rfl
        rw [this]
        exact lookup_has q
    rcases hz with e | e
    · exact far _ (.inl rfl) e
    · exact far _ (.inr rfl) e
end
/-- over a range -/
theorem comp_range {lo : Int} {n : Nat} {D : Addr} {σ : St} {sub : List Nat} {tt : TT} {te : TE} {Q : VK} {H : Hp} (Pv : Nat → List V → Hp → Prop) (h0 : Pv 0 [] (upd H D (.lst [])))
    (hs : ∀ i ys H2, i < n → Pv i ys H2 → tt (some (.int (lo + i)) :: subσ sub σ) H2 fun b H4 => if b = true then te (some (.int (lo + i)) :: subσ sub σ) H4 fun y H5 => H5 D = some (.lst ys) ∧ ys.length < sizeLine ∧ Pv (i + 1) (ys ++ [y]) (upd H5 D (.lst (ys ++ [y]))) else Pv (i + 1) ys H4)
    (hd : ∀ ys H2, Pv n ys H2 → Q (.ref D) H2) :
    ∃ W : Nat → Nat → List V → Hp → Prop, (∃ m, W 0 m [] (upd H D (.lst []))) ∧ ∀ i m ys H2, W i m ys H2 →
      ((Itr lo n).stop i H2 ∧ Q (.ref D) H2) ∨ ((Itr lo n).go i H2 ∧ ∃ N : List V → Hp → Prop, (∀ ys' H', N ys' H' → ∃ m', m' < m ∧ W (i + 1) m' ys' H') ∧ ∀ v H3, (Itr lo n).yld i H2 v H3 → tt (some v :: subσ sub σ) H3 fun b H4 => if b = true then
        te (some v :: subσ sub σ) H4 fun y H5 => H5 D = some (.lst ys) ∧ ys.length < sizeLine ∧ N (ys ++ [y]) (upd H5 D (.lst (ys ++ [y]))) else N ys H4) := by
  refine ⟨fun i m ys H2 => m = n - i ∧ i ≤ n ∧ Pv i ys H2, ⟨n, by simp, Nat.zero_le _, h0⟩, ?_⟩
  rintro i m ys H2 ⟨rfl, hi, p⟩
  by_cases hlt : i < n
  · refine .inr ⟨hlt, Pv (i + 1), fun ys' H' p' => ⟨n - (i + 1), by omega, rfl, hlt, p'⟩, fun v H3 y => ?_⟩
    obtain ⟨e, e2⟩ := y
    subst e e2
    exact hs i ys _ hlt p
  · have e : i = n := by omega
    subst e
    exact .inl ⟨Nat.le_refl _, hd ys H2 p⟩
end L2

set_option Elab.async false
set_option linter.all false
set_option maxRecDepth 100000
set_option maxHeartbeats 4000000
namespace L2
open PySem PySem.Spec PyProof.Rows PySem.Builtin PySem.Builtin.ObjectAttr
/-! ### own refusals: classes straight under one that stands straight under ValueError -/
abbrev vMro : List Value := [.type "ValueError", .type "Exception", .type "BaseException", .type "object"]
abbrev xMro (C U : Addr) : List Value := .ref C :: .ref U :: vMro
theorem x_refuse (self : Value) (C U : Addr) : refuseLoop self "__setattr__" (xMro C U) = pure () := by
  rw [refuseLoop_ref, refuseLoop_ref]
  exact PySem.F.store_ValueError.passes self
section
variable {prog : Program} {w : World} {A : Around} {E : Value → Shared → Prop} {s : Shared} {K : PySem.W.Frag} {x C U : Addr} {ox : Obj} {od : Option Obj} {cd : ClassData} {name : Str} {v : Value}
/-- object.__setattr__ of such a thing, up to its own dict -/
theorem x_osa {R : Result → Shared → Prop} {tk : Tok} (X : K.In s.heap) (I : PySem.W.InstAt s.heap x ox C od) (hc : PySem.W.clsIn K C = some cd) (hm : cd.mro = xMro C U) (ha : PySem.W.findIn K (.ref C) name = some none)
    (h : ∀ b, wpAny (model prog w) A.in1 (storeInOwnDict (.ref x) (.ref C) (.str name tk) name v b)
      (fun fin s' => match fin with | .done f => R (.ok f) s' | .again c' => c'.quiet = true ∧ codeAny (model prog w) A c' R s') (fun e s' => R (.error e) s') s) :
    codeAny (model prog w) A (.call (.builtin "object.__setattr__") ⟨[.ref x, .str name tk, v], []⟩) R s := by
  have O := PySem.F.store_object
  have sub : PySem.W.Looks (model prog w) s.heap (isInstance (.ref x) (.type "object")) true := I.type.andThen (PySem.W.looks_mroIn X (by unfold PySem.W.mroIn; rw [hc, Option.bind_some, hm]; rfl))
  have hmr : PySem.W.Looks (model prog w) s.heap (mroOf (.ref C)) cd.mro := (PySem.W.looks_clsIn X hc).andThen .now
  refine codeAny_call_builtin O.slot.plain O.entry (@PySem.W.check_slot (model prog w) _ _ s "object.__setattr__" "object" "__setattr__" (.ref x) [.str name tk, v] [] _ O.kind O.split sub (O.args _ _ _) ?_)
  rw [PySem.W.osa_eq, refuse_eq]
  refine wpAny_bind (wpAny_bind (I.type.here (wpAny_bind (hmr.here ?_))))
  rw [hm, x_refuse]
  exact wpAny_pure (wpAny_bind (I.type.here (wpAny_bind ((PySem.W.looks_findIn X ha).here (wpAny_bind (wpAny_pure (h _)))))))
/-- x.name = v, where x has no dict yet -/
theorem x_set {Q : Unit → Shared → Prop} {vs : Array Value} (X : K.In s.heap) (hx : s.heap.get? x = some { cls := .ref C, data := .fields vs }) (hs : PySem.W.findIn K (.ref C) "__setattr__" = some (some (.builtin "object.__setattr__")))
    (hc : PySem.W.clsIn K C = some cd) (hm : cd.mro = xMro C U) (hd : cd.hasDict = true) (ha : PySem.W.findIn K (.ref C) name = some none)
    (h : ∀ h', h'.get? x = some { cls := .ref C, dict := some s.heap.objs.size, data := .fields vs } → h'.Ns1 s.heap.objs.size (fun y => if y = name then some v else none) → (∀ b o, b ≠ x → s.heap.get? b = some o → h'.get? b = some o) → ∀ tk, Q () { s with heap := h', toks := tk }) :
    wpAny (model prog w) A (setAttr (.ref x) name v) Q E s := by
  have I : PySem.W.InstAt s.heap x { cls := .ref C, data := .fields vs } C none := ⟨hx, rfl, rfl, True.intro⟩
  refine PySem.W.set_plain X I hs (x_osa (s := { s with toks := s.toks + 1 }) X I hc hm ha fun b => ?_)
  have hxs : x ≠ s.heap.objs.size := Nat.ne_of_lt (Heap.lt_size hx)
  refine wpAny_bind (wpAny_pure (wpAny_bind ?_))
  show wpAny _ _ (instanceDict x true) _ _ _
  unfold instanceDict
  refine wpAny_bind (wpAny_loadPart hx (wpAny_bind (PySem.W.Looks.here (s := { s with toks := s.toks + 1 }) (PySem.W.looks_clsIn X hc) ?_)))
  rw [hd]
  dsimp only
  rw [if_neg (by decide), if_neg (by simp [typeHasDict])]
  refine wpAny_bind (wpAny_alloc (wpAny_bind (wpAny_update (Heap.get?_push_of_some _ hx) (wpAny_pure ?_))))
  generalize eh : (s.heap.push { cls := .type "dict", data := .dict #[] }).update x (fun o => { cls := o.cls, dict := some s.heap.objs.size, data := o.data, slots := o.slots }) = h1
  have hx1 : h1.get? x = some { cls := .ref C, dict := some s.heap.objs.size, data := .fields vs } := by
    rw [← eh]
    exact Heap.get?_update_self _ (Heap.get?_push_of_some _ hx) rfl
  have hd1 : h1.get? s.heap.objs.size = some { cls := .type "dict", data := .dict #[] } := by
    rw [← eh, Heap.get?_update_ne _ _ _ _ (Ne.symm hxs)]
    exact Heap.get?_push_size _ rfl
  have keep1 : ∀ b o, b ≠ x → s.heap.get? b = some o → h1.get? b = some o := fun b o hb e => by
    rw [← eh, Heap.get?_update_ne _ _ _ _ hb]
    exact Heap.get?_push_of_some _ e
  have n1 : h1.Ns1 s.heap.objs.size (fun _ => none) := Heap.Ns1.of_empty ⟨_, #[], _, hd1, rfl, fun e he => absurd he (by simp), fun _ => rfl⟩
  show wpAny _ _ (storeInDict s.heap.objs.size (.str name s.toks) name v) _ _ { s with heap := h1, toks := s.toks + 1 }
  unfold storeInDict newKeyGuard
  refine wpAny_bind (wpAny_pure (wpAny_bind (wpAny_nsSet1 (s := { s with heap := h1, toks := s.toks + 1 }) n1 fun h2 n2 sb => ?_)))
  have sb : Heap.SameBut s.heap.objs.size h1 h2 := sb
  obtain ⟨o2, es2, ep2, ho2, hd2, hc2⟩ := n2.count (PySem.Within.cons name v PySem.Within.nil)
  refine wpAny_bind (wpAny_lookBehind ho2 (by rw [hd2]; exact pastItsLine_dict (Nat.le_trans hc2 (by rw [List.length_cons, List.length_nil, sizeLine_eq]; omega))) ?_)
  exact wpAny_pure (h h2 ((sb.2 x hxs).trans hx1) n2 (fun b o hb e => (sb.2 b (Nat.ne_of_lt (Heap.lt_size e))).trans (keep1 b o hb e)) _)
/-- x.name, where x has it -/
theorem x_get {Q : Value → Shared → Prop} {expr : Bool} (X : K.In s.heap) (I : PySem.W.InstAt s.heap x ox C od) (hc : PySem.W.clsIn K C = some cd) (hm : cd.mro = xMro C U)
    (hga : PySem.W.findIn K (.ref C) "__getattribute__" = some (some (.builtin "BaseException.__getattribute__"))) (hgn : PySem.W.findIn K (.ref C) "__getattr__" = some none)
    (hf : PySem.W.findObj K C od name = some (.value v)) (hv : PySem.W.handedIn v = true) (h : Q v { s with toks := s.toks + 1 }) : wpAny (model prog w) A (getAttr (.ref x) name expr) Q E s := by
  obtain ⟨hh, g, d, t, os⟩ := s
  have L0 := I.type (M := model prog w)
  have L1 := PySem.W.looks_findIn (M := model prog w) X hga
  have L2 := PySem.W.looks_findIn (M := model prog w) X hgn
  have L3 := PySem.W.looks_find (M := model prog w) X I hf
  have sub : PySem.W.Looks (model prog w) hh (isInstance (.ref x) (.type "BaseException")) true := I.type.andThen (PySem.W.looks_mroIn X (by unfold PySem.W.mroIn; rw [hc, Option.bind_some, hm]; rfl))
  unfold getAttr getAttrBy
  refine wpAny_bind (wpAny_mkText (wpAny_holding (wpAny_bind (L0.at (wpAny_bind (L1.at ?_))))))
  show wpAny _ _ (getAttrByItsOwn _ _ _ _ _ _) _ _ _
  unfold getAttrByItsOwn hookBefore
  rw [if_pos (show onTheHeap (Value.ref C) = true from rfl)]
  refine wpAny_bind (L2.at (wpAny_bind (wpAny_attempt (wpAny_holding ?_))))
  have e1 : (expr && onTheHeap (Value.builtin "BaseException.__getattribute__")) = false := by cases expr <;> rfl
  unfold callGetattribute
  rw [e1, if_neg Bool.false_ne_true]
  unfold boundAndCalled
  rw [PySem.F.attr_ValueError.ga.bind]
  refine wpAny_bind (wpAny_pure (wpAny_call (codeAny_call_builtin PySem.F.attr_ValueError.ga.plain PySem.F.entry_bexc_ga (@PySem.W.check_slot (model prog w) _ _ _ "BaseException.__getattribute__" "BaseException" "__getattribute__" (.ref x) _ [] _ (by decide +kernel) (by decide +kernel) sub (PySem.F.args_bexc_ga _ _) ?_))))
  unfold Builtin.«object.__getattribute__»
  refine wpAny_bind (wpAny_pure (wpAny_bind (wpAny_pure (wpAny_bind (L0.at (wpAny_bind (L3.at (wpAny_pure ?_))))))))
  show wpAny (model prog w) _ (handedOut v) _ _ _
  rw [PySem.W.handedOut_of hv]
  exact wpAny_pure h
/-- x.__class__ -/
theorem x_cls {Q : Option Value → Shared → Prop} (X : K.In s.heap) (I : PySem.W.InstAt s.heap x ox C od) (hc : PySem.W.clsIn K C = some cd) (hm : cd.mro = xMro C U)
    (hga : PySem.W.findIn K (.ref C) "__getattribute__" = some (some (.builtin "BaseException.__getattribute__"))) (hgn : PySem.W.findIn K (.ref C) "__getattr__" = some none)
    (hf : PySem.W.findObj K C od "__class__" = some (.bind (.builtin "getset_descriptor.__get__") (.builtin "object.__class__"))) (h : Q (some (.ref C)) { s with toks := s.toks + 1 }) : wpAny (model prog w) A (getAttr? (.ref x) "__class__") Q E s := by
  obtain ⟨hh, g, d, t, os⟩ := s
  have L0 := I.type (M := model prog w)
  have L1 := PySem.W.looks_findIn (M := model prog w) X hga
  have L2 := PySem.W.looks_findIn (M := model prog w) X hgn
  have L3 := PySem.W.looks_find (M := model prog w) X I hf
  have hmo : PySem.W.mroIn K C (.type "object") = some true := by unfold PySem.W.mroIn; rw [hc, Option.bind_some, hm]; rfl
  have sub : PySem.W.Looks (model prog w) hh (isInstance (.ref x) (.type "BaseException")) true := I.type.andThen (PySem.W.looks_mroIn X (by unfold PySem.W.mroIn; rw [hc, Option.bind_some, hm]; rfl))
  unfold getAttr? getAttrBy?
  refine wpAny_bind (wpAny_mkText (wpAny_bind (wpAny_attempt ?_)))
  unfold getAttrBy
  refine wpAny_holding (wpAny_bind (L0.at (wpAny_bind (L1.at ?_))))
  show wpAny _ _ (getAttrByItsOwn _ _ _ _ _ _) _ _ _
  unfold getAttrByItsOwn hookBefore
  rw [if_pos (show onTheHeap (Value.ref C) = true from rfl)]
  refine wpAny_bind (L2.at (wpAny_bind (wpAny_attempt (wpAny_holding ?_))))
  unfold callGetattribute
  rw [show (false && onTheHeap (Value.builtin "BaseException.__getattribute__")) = false from rfl, if_neg Bool.false_ne_true]
  unfold boundAndCalled
  rw [PySem.F.attr_ValueError.ga.bind]
  refine wpAny_bind (wpAny_pure (wpAny_call (codeAny_call_builtin PySem.F.attr_ValueError.ga.plain PySem.F.entry_bexc_ga (@PySem.W.check_slot (model prog w) _ _ _ "BaseException.__getattribute__" "BaseException" "__getattribute__" (.ref x) _ [] _ (by decide +kernel) (by decide +kernel) sub (PySem.F.args_bexc_ga _ _) ?_))))
  unfold Builtin.«object.__getattribute__»
  refine wpAny_bind (wpAny_pure (wpAny_bind (wpAny_pure (wpAny_bind (L0.at (wpAny_bind (L3.at ?_)))))))
  show wpAny (model prog w) A.in1 (holding [.builtin "object.__class__"] (call (.builtin "getset_descriptor.__get__") [.builtin "object.__class__", .ref x, .ref C]) >>= ret) _ _ _
  refine wpAny_bind (wpAny_holding (wpAny_call (PySem.W.class_get (s := ⟨hh, g, d, t + 1, os⟩) X I hmo ?_)))
  exact wpAny_pure (wpAny_pure (wpAny_pure h))
end
section
variable {prog : Program} {w : World} {A : Around} {E : Value → Shared → Prop} {h : Heap} {g : Array GenState} {d : Drawn} {t : Nat} {os : OsState}
variable {nm q : Str} {C N f : Addr} {bs bm bmB bmN : List Value} {hdct : Bool} {sn : List Str} {sub : List Value} {ab : Bool} {col : Option Bool} {dd : Option Addr} {k0 k1 k2 k3 k5 : Option Value} {B Bn newId nid initId inN : String}
/-- C(..), whatever its __init__ is -/
theorem x_make (Fn : ExcBaseFacts Bn newId inN bmN) (hBn : bmB.contains (.type Bn) = true) (F : ExcBaseFacts B nid initId bmB) (T : OwnTail h bmB bm) {rest : List Value} {init : Value} {Q : Value → Shared → Prop}
    (hC : h.get? C = some (excClassObj nm q C N bs bm hdct sn sub ab col dd k0 k1 k2 k3 k5 newId)) (hi : PySem.W.Looks (model prog w) h (typeLookup (.ref C) "__init__") (some init))
    (hb : ∀ self, PySem.W.Looks (model prog w) h (bindSpecial init self) (init, [self])) (hrest : rest.length ≤ sizeLine)
    (hq : wpAny (model prog w) (A.under (.builtin "type.__call__" ⟨.ref C :: rest, []⟩)) (call init (.ref (h.objs.size + 1) :: rest)) (fun r s' => r = .none ∧ Q (.ref (h.objs.size + 1)) s') E
      ⟨(h.push { cls := .type "tuple", data := .seq rest.toArray }).push { cls := .ref C, data := .fields #[.ref h.objs.size, .none, .none, .none, .bool false, .none] }, g, d, t, os⟩) :
    wpAny (model prog w) A (call (.ref C) rest) Q E ⟨h, g, d, t, os⟩ := by
  have a1 := tc_lookup
  have a2 := tc_bind (.ref C)
  have a3 : (⟨h, g, d, t, os⟩ : Shared).TypeIs (.ref C) "type" := ⟨_, hC, rfl⟩
  refine wpAny_call (codeAny_of_tree ?_)
  show wpAny (model prog w) _ (callAny (.ref C) _) _ _ _
  repeat (any_goals (first | with_reducible refine wpAny_loadPart_at hC ?_ | assumption | wp_step))
  refine ⟨rfl, codeAny_call_builtin_at (Code.quiet_builtin _ (by decide +kernel)) entry_typeCall (wpAny_check_type_call_sub hC ?_)⟩
  repeat (first | with_reducible refine wpAny_madeBy_exc hC ?_ | with_reducible refine wpAny_loadPart_at hC ?_ | wp_step)
  refine codeAny_call_builtin_code (Code.quiet_builtin _ Fn.quiet) (wpAny_check_new_subU Fn hBn T hC (codeAny_exc_new_subU Fn hBn F T hC ?_ hrest))
  show wpAny (model prog w) _ _ _ _ ⟨(h.push { cls := .type "tuple", data := .seq rest.toArray }).push { cls := .ref C, data := .fields #[.ref h.objs.size, .none, .none, .none, .bool false, .none] }, g, d, t, os⟩
  have hCC : (Value.ref C :: bm).contains (.ref C) = true := by simp
  have kp : ∀ b o, h.get? b = some o → ((h.push { cls := .type "tuple", data := .seq rest.toArray }).push { cls := .ref C, data := .fields #[.ref h.objs.size, .none, .none, .none, .bool false, .none] }).get? b = some o := fun b o e =>
    Heap.get?_push_of_some _ (Heap.get?_push_of_some _ e)
  have hE : ((h.push { cls := .type "tuple", data := .seq rest.toArray }).push { cls := .ref C, data := .fields #[.ref h.objs.size, .none, .none, .none, .bool false, .none] }).get? (h.objs.size + 1) = some { cls := .ref C, data := .fields #[.ref h.objs.size, .none, .none, .none, .bool false, .none] } := by heap_get
  have hT : ((h.push { cls := .type "tuple", data := .seq rest.toArray }).push { cls := .ref C, data := .fields #[.ref h.objs.size, .none, .none, .none, .bool false, .none] }).get? h.objs.size = some { cls := .type "tuple", data := .seq rest.toArray } := Heap.get?_push_of_some _ (Heap.get?_push_at rfl rfl)
  have hC2 := kp _ _ hC
  unfold isInstance
  repeat (first | (with_reducible refine wpAny_isSubtype_exc hC2 ?_; rw [hCC]) | with_reducible refine wpAny_loadPart_at hE ?_ | wp_step)
  show wpAny (model prog w) _ (typeLookup (.ref C) _) _ _ _
  refine hi _ _ _ _ kp (wpAny_holding (wpAny_bind (hb _ _ _ _ _ kp (wpAny_bind (thn hq fun r s' hr => ?_)))))
  obtain ⟨rfl, hQ⟩ := hr
  wp_walk
  exact hQ
end
end L2

set_option Elab.async false
set_option linter.all false
set_option maxRecDepth 100000
set_option maxHeartbeats 4000000
namespace L2
open PySem PySem.Spec PyProof.Rows
/-- an own refusal at e: its class, its dict -/
def XO (C e : Addr) (D : Option Addr) : HO := .ext fun h => ∃ vs, h.get? e = some { cls := .ref C, dict := D, data := .fields vs }
theorem xo_ok {P : Program} {w : World} {H : Hp} {h : Heap} {C e : Addr} {D : Option Addr} {vs : Array Value} (q : h.get? e = some { cls := .ref C, dict := D, data := .fields vs }) : ObjOk P w H h e (XO C e D) :=
  ⟨⟨vs, q⟩, ⟨_, q⟩, fun h1 h2 ⟨us, z⟩ k => ⟨us, k _ z⟩⟩
theorem xo_get {X : Cx} {pins : List (Addr × Obj)} {σ : St} {H : Hp} {s : Shared} {C e : Addr} {D : Option Addr} (I : Inv X pins σ H s) (q : H e = some (XO C e D)) : ∃ vs, s.heap.get? e = some { cls := .ref C, dict := D, data := .fields vs } := (I.hok e _ q).1
/-- what the top has written of such a class -/
def xIn (K : PySem.W.Frag) (C U : Addr) : Bool := match K.lookup C with
  | some ⟨.type "type", _, .cls cd, sl⟩ => (match sl.toList with
    | [_, _, _, _, some (.builtin n), _] => n == "ValueError.__new__" && cd.mro == xMro C U && !cd.hasDel && cd.hasDict && PySem.W.tailIn K vMro (.ref U :: vMro)
    | _ => false)
  | _ => false
structure XCls (K : PySem.W.Frag) (C U : Addr) : Prop where
  ex : xIn K C U = true
  ga : PySem.W.findIn K (.ref C) "__getattribute__" = some (some (.builtin "BaseException.__getattribute__"))
  gn : PySem.W.findIn K (.ref C) "__getattr__" = some none
  cl : PySem.W.findIn K (.ref C) "__class__" = some (some (.builtin "object.__class__"))
  sp : PySem.W.specialIn K (.builtin "object.__class__") "__get__" = some (some (.builtin "getset_descriptor.__get__"))
  tk : PySem.W.takesIn K (.builtin "object.__class__") = some true
  sa : PySem.W.findIn K (.ref C) "__setattr__" = some (some (.builtin "object.__setattr__"))
  kp : PySem.W.keepIn K (.ref C) = true
theorem x_of {K : PySem.W.Frag} {h : Heap} {C U : Addr} (X : K.In h) (q : xIn K C U = true) : (∃ cd, PySem.W.clsIn K C = some cd ∧ cd.mro = xMro C U ∧ cd.hasDict = true) ∧ OwnTail h vMro (.ref U :: vMro) ∧
    ∃ nm qn N bs hdct sn sub ab col dd k0 k1 k2 k3 k5, h.get? C = some (excClassObj nm qn C N bs (.ref U :: vMro) hdct sn sub ab col dd k0 k1 k2 k3 k5 "ValueError.__new__") := by
  unfold xIn at q
  split at q
  · rename_i dd cd sl ho
    split at q
    · rename_i k0 k1 k2 k3 n k5 hs
      simp only [Bool.and_eq_true, beq_iff_eq, Bool.not_eq_true'] at q
      obtain ⟨⟨⟨⟨rfl, hm⟩, hdel⟩, hd⟩, ht⟩ := q
      refine ⟨⟨cd, by unfold PySem.W.clsIn; rw [ho], hm, hd⟩, PySem.W.tail_of_in X ht, ?_⟩
      obtain ⟨nm, bs, mro, ns, qn, hdc, sn, sub, ab, col, del⟩ := cd
      dsimp only at hm hdel
      subst hm hdel
      have e : sl = #[k0, k1, k2, k3, some (.builtin "ValueError.__new__"), k5] := by
        obtain ⟨l⟩ := sl
        simp only at hs
        rw [hs]
      subst e
      exact ⟨nm, qn, ns, bs, hdc, sn, sub, ab, col, dd, k0, k1, k2, k3, k5, X _ _ ho⟩
    · cases q
  · cases q
section
variable {X : Cx} {pins : List (Addr × Obj)} {σ : St} {H : Hp} {s : Shared}
/-- the kit's word for such a thing -/
theorem kitx_exc {K : PySem.W.Frag} {x C U : Addr} {ox : Obj} {od : Option Obj} (T : XCls K C U) : PySem.W.KitX K (.ref x) (.ref C) (fun h => PySem.W.InstAt h x ox C od) where
  ty := fun _ _ _ I => I.type
  it := fun _ h XK _ => by
    obtain ⟨_, _, nm, qn, N, bs, hdct, sn, sub, ab, col, dd, k0, k1, k2, k3, k5, hC⟩ := x_of XK T.ex
    intro A' Q' E' s' k q
    unfold isType loadHead
    exact wpAny_bind (wpAny_loadPart (k _ _ hC) (wpAny_pure q))
  ne := fun h tp dd its n sl XK htp => by
    obtain ⟨_, _, nm, qn, N, bs, hdct, sn, sub, ab, col, d2, k0, k1, k2, k3, k5, hC⟩ := x_of XK T.ex
    refine Bool.eq_false_iff.mpr fun q => ?_
    have e : C = tp := Value.ref.inj (beq_iff_eq.mp q)
    subst e
    rw [hC] at htp
    have z : Value.type "type" = Value.type "tuple" := congrArg Obj.cls (Option.some.inj htp)
    exact absurd z (by decide)
  ca := fun XK I k => by
    obtain ⟨⟨cd, hc, hm, hd⟩, _⟩ := x_of XK T.ex
    refine x_cls XK I hc hm T.ga T.gn ?_ k
    unfold PySem.W.findObj
    rw [hc, Option.bind_some, T.cl, Option.bind_some]
    dsimp only
    rw [T.sp, Option.bind_some]
    dsimp only
    rw [T.tk, Option.bind_some]
theorem inst_xo {C e : Addr} {D : Option Addr} (I : Inv X pins σ H s) (q : H e = some (XO C e D)) (hD : ∀ d, D = some d → ∃ fs, H d = some (.xd fs)) : ∃ ox od, PySem.W.InstAt s.heap e ox C od := by
  obtain ⟨vs, hx⟩ := xo_get I q
  cases D with
  | none => exact ⟨_, none, hx, rfl, rfl, True.intro⟩
  | some d =>
    obtain ⟨fs, hd⟩ := hD d rfl
    obtain ⟨mA, ⟨o, es, ep, ho, _⟩, _⟩ := (show ObjOk X.prog X.w H s.heap d (.xd fs) from I.hok d _ hd)
    exact ⟨_, some o, hx, rfl, rfl, ho⟩
/-- a refusal in the heap: its class, its dict and its fields -/
def XAt (H : Hp) (e C : Addr) (fs : List (Str × V)) : Prop := ∃ D, H e = some (XO C e D) ∧ ((D = none ∧ fs = []) ∨ ∃ d, D = some d ∧ H d = some (.xd fs))
theorem XAt.inst {C e : Addr} {fs : List (Str × V)} (I : Inv X pins σ H s) (q : XAt H e C fs) : ∃ ox od, PySem.W.InstAt s.heap e ox C od := by
  obtain ⟨D, h1, h2⟩ := q
  refine inst_xo I h1 fun d e => ?_
  rcases h2 with ⟨z, _⟩ | ⟨d', z, hd⟩
  · rw [z] at e; cases e
  · rw [z] at e; cases e; exact ⟨fs, hd⟩
end
section
variable {X : Cx}
/-- isinstance(e, D), e an own refusal, D an own class or a built-in one -/
theorem call_isinstX : CallR X (.builtin "isinstance") (fun xs H Q => ∃ (e C U : Addr) (fs : List (Str × V)) (c : V) (b : Bool), xs = [.ref e, c] ∧ XAt H e C fs ∧ XCls X.K C U ∧
    ((∃ D, c = .ref D ∧ PySem.W.kitOne X.K (.ref C) (.ref D) = some b) ∨ ∃ n, c = .ty n ∧ PySem.W.kitOne X.K (.ref C) (.type n) = some b) ∧ Q (.bl b) H) := by
  intro pins s σ H xs us Q I r h
  obtain ⟨e, C, U, fs, c, b, rfl, xa, T, hk, q⟩ := h
  obtain ⟨u, u2, rfl, rx, rt⟩ := vals2 r
  cases (show u = Value.ref e from rx)
  obtain ⟨ox, od, J⟩ := xa.inst I
  rcases hk with ⟨D, rfl, hk⟩ | ⟨n, rfl, hk⟩
  · cases (show u2 = Value.ref D from rt)
    exact PySem.W.kia_one (kitx_exc T) I.kIn J hk (fun z => nomatch z) fun tk => ⟨.bl b, H, I.tok _, rfl, q⟩
  · cases (show u2 = Value.type n from rt)
    exact PySem.W.kia_one (kitx_exc T) I.kIn J hk (fun z => nomatch z) fun tk => ⟨.bl b, H, I.tok _, rfl, q⟩
/-- e.f of such a thing -/
def tXFld (K : PySem.W.Frag) (f : Str) (ta : TE) : TE := fun σ H Q => ta σ H fun x H1 => ∃ (e C U : Addr) (fs : List (Str × V)) (v : V), x = .ref e ∧ XAt H1 e C fs ∧ XCls K C U ∧ PySem.W.findIn K (.ref C) f = some none ∧ fs.lookup f = some v ∧ Q v H1
theorem x_hd {K : PySem.W.Frag} {h : Heap} {C U : Addr} (XK : K.In h) (T : XCls K C U) : PySem.W.hasDictIn K C = true := by
  obtain ⟨⟨cd, hc, hm, hd⟩, _⟩ := x_of XK T.ex
  unfold PySem.W.hasDictIn
  rw [hc]
  exact hd
theorem pe_xfld {o : Expr} {ta : TE} {f : Str} {pos : Pos} (he : PE X o ta) (hb : attributeBase o f X.env (eval o X.env) = eval o X.env := by rfl) : PE X (.Attribute o f pos) (tXFld X.K f ta) := by
  intro pins s σ H Q I h
  refine attr_of hb (thn (he pins s σ H _ I h) fun u s1 ⟨x, H1, I1, rx, e, C, U, fs, v, ex, xa, T, hn, hl, q⟩ => ?_)
  subst ex
  obtain rfl : u = Value.ref e := rx
  obtain ⟨D, h1, h2⟩ := xa
  rcases h2 with ⟨_, rfl⟩ | ⟨d, rfl, hd⟩
  · cases hl
  · obtain ⟨vs, hx⟩ := xo_get I1 h1
    obtain ⟨mA, n1, rel⟩ := (show ObjOk X.prog X.w H1 s1.heap d (.xd fs) from I1.hok d _ hd)
    obtain ⟨od, ho, look⟩ := lookIn_ns n1
    obtain ⟨u', hu, ru⟩ := RelO.some_of (v := v) (o := mA f) (by rw [← hl]; exact rel f)
    obtain ⟨⟨cd, hc, hm, hdct⟩, _⟩ := x_of I1.kIn T.ex
    exact x_get I1.kIn (ox := { cls := .ref C, dict := some d, data := .fields vs }) (od := some od) ⟨hx, rfl, rfl, ho⟩ hc hm T.ga T.gn (PySem.W.findObj_own (x_hd I1.kIn T) hn rfl (by rw [look, hu])) (handed_of ru) ⟨v, H1, I1.tok _, ru, q⟩
/-- e.f = v, the first field of such a thing -/
def sXFld (K : PySem.W.Frag) (ta tv : TE) (f : Str) : TS := fun D σ H => tv σ H fun y H1 => ta σ H1 fun x H2 => ∃ (e C U : Addr), x = .ref e ∧ H2 e = some (XO C e none) ∧ XCls K C U ∧ PySem.W.findIn K (.ref C) f = some none ∧
  ∀ d, H2 d = none → D.nx σ (upd (upd H2 d (.xd [(f, y)])) e (XO C e (some d)))
theorem ps_xfld {o value : Expr} {ta tv : TE} {f : Str} {pos pos' : Pos} (ha : PE X o ta) (hv : PE X value tv) (hs : swapsWith value (some (.Attribute o f pos')) pos.line X.env = pure false) : PS X (.Assign [.Attribute o f pos'] value pos) (sXFld X.K ta tv f) := by
  intro pins s σ H D I h
  refine plainObj_wpAny_Assign_Attribute (thn (hv pins s σ H _ I h) fun u s1 ⟨y, H1, I1, ry, q⟩ => thn (ha pins s1 σ H1 _ I1 q) fun ov s2 ⟨x, H2, I2, rx, e, C, U, ex, h1, T, hn, q2⟩ => ?_) hs
  subst ex
  obtain rfl : ov = Value.ref e := rx
  obtain ⟨vs, hx⟩ := xo_get I2 h1
  obtain ⟨⟨cd, hc, hm, hdct⟩, _⟩ := x_of I2.kIn T.ex
  refine x_set I2.kIn hx T.sa hc hm hdct hn fun h' hx' n' keep tk => ?_
  have nd : H2 s2.heap.objs.size = none := I2.hok.fresh (Nat.le_refl _)
  have ed : e ≠ s2.heap.objs.size := ne_of_none h1 nd
  obtain ⟨od, es, ep, hod, hrest⟩ := id n'
  have Ia := I2.laid (t' := tk) (a := s2.heap.objs.size) (o := .dK []) (h' := s2.heap.push { cls := .type "dict", data := .dict #[] }) (fun _ _ z => Heap.get?_push_of_some _ z) (Nat.le_refl _) (dk_empty s2.heap I2.big)
  have hfr : od.isFreed = false := (Heap.get?_some_iff.mp hod).2
  have g1 : ((s2.heap.push { cls := .type "dict", data := .dict #[] }).update s2.heap.objs.size fun _ => od).get? s2.heap.objs.size = some od := Heap.get?_update_self _ (Heap.get?_push_size _ rfl) hfr
  have Ib := Ia.write (t' := tk) (x := s2.heap.objs.size) (e := s2.heap.objs.size) (o := .xd [(f, y)]) (h' := (s2.heap.push { cls := .type "dict", data := .dict #[] }).update s2.heap.objs.size fun _ => od) (by rw [upd_same]; exact True.intro) (.inl rfl)
    (fun b z hb e0 => (Heap.get?_update_ne _ _ _ _ hb).trans e0) ⟨od, g1⟩ ⟨fun g => if g = f then some u else none, n'.at fun o z => by rw [hod] at z; cases z; exact g1, fun g => by
      show RelO (List.lookup g [(f, y)]) (if g = f then some u else none)
      by_cases c : g = f
      · rw [if_pos c, c]
        show RelO (List.lookup f [(f, y)]) _
        rw [List.lookup_cons, beq_self_eq_true]
        exact ry
      · rw [if_neg c]
        show RelO (List.lookup g [(f, y)]) _
        rw [List.lookup_cons, beq_eq_false_iff_ne.mpr c]
        exact True.intro⟩
  rw [upd_upd] at Ib
  have Ic := Ib.write (t' := tk) (x := e) (e := e) (o := XO C e (some s2.heap.objs.size)) (h' := h') (by rw [upd_ne ed, h1]; exact True.intro) (.inl rfl)
    (fun b z hb e0 => by
      by_cases c : b = s2.heap.objs.size
      · subst c
        have e0 : ((s2.heap.push { cls := .type "dict", data := .dict #[] }).update s2.heap.objs.size fun _ => od).get? s2.heap.objs.size = some z := e0
        rw [g1] at e0
        cases e0
        exact hod
      · exact keep b z hb ((Heap.get?_push_ne _ b _ c).symm.trans ((Heap.get?_update_ne _ _ _ _ c).symm.trans e0))) ⟨_, hx'⟩ (xo_ok hx')
  exact ⟨σ, _, Ic, q2 _ nd⟩
/-- C(e), C with an __init__ of its own -/
def tXMake (C : Addr) (sp : Sp) (E : XK) (t : TA) : TE := fun σ H Q => t σ H fun vs H1 => ∀ x, H1 x = none → sp (.ref x :: vs) (upd H1 x (XO C x none)) (fun v H2 => v = .non ∧ Q (.ref x) H2) E
theorem run_xmake {CX : CXT} {k : Nat} {f C U : Addr} {fd : FuncData} {ps : List Str} {sp : Sp} {E : XK} {pins : List (Addr × Obj)} {σ : St} {H : Hp} {s : Shared} {Q : VK} {us : List Value} {vs : List V} (T : XCls X.K C U) (hi : PySem.W.findIn X.K (.ref C) "__init__" = some (some (.ref f))) (hf : PySem.W.isFn X.K (.ref f) = true)
    (F : FnOk X.prog X.w X.K X.mg X.base CX k f fd ps sp) (hr : Room (k + 1) X.A) (hb : Binds X.K fd ps []) (hx : Passes CX X E) (I : Inv X pins σ H s) (r : Vals vs us) (hl : us.length ≤ sizeLine)
    (h : ∀ x, H x = none → sp (.ref x :: vs) (upd H x (XO C x none)) (fun v H2 => v = .non ∧ Q (.ref x) H2) E) : wpAny (model X.prog X.w) X.A (call (.ref C) us) (EP X pins σ Q) X.xe s := by
  obtain ⟨_, OT, nm, qn, N, bs, hdct, sn, sub, ab, col, dd, k0, k1, k2, k3, k5, hC⟩ := x_of I.kIn T.ex
  have hq := h (s.heap.objs.size + 1) (I.hok.fresh (Nat.le_succ _))
  obtain ⟨hp, g, d, t, os⟩ := s
  refine x_make PySem.F.excBase_ValueError (by decide) PySem.F.excBase_ValueError OT hC (PySem.W.looks_findIn I.kIn hi) (fun self => PySem.W.bind_fn I.kIn self (beq_iff_eq.mp hf)) hl ?_
  have I2 : Inv X pins σ (upd H (hp.objs.size + 1) (XO C (hp.objs.size + 1) none)) ⟨(hp.push { cls := .type "tuple", data := .seq us.toArray }).push { cls := .ref C, data := .fields #[.ref hp.objs.size, .none, .none, .none, .bool false, .none] }, g, d, t, os⟩ :=
    I.laid (h' := (hp.push { cls := .type "tuple", data := .seq us.toArray }).push { cls := .ref C, data := .fields #[.ref hp.objs.size, .none, .none, .none, .bool false, .none] }) (t' := t) (fun b o e => Heap.get?_push_of_some _ (Heap.get?_push_of_some _ e)) (Nat.le_succ _) (xo_ok (by heap_get))
  have r2 : Vals (V.ref (hp.objs.size + 1) :: vs) (Value.ref (hp.objs.size + 1) :: us) := .cons rfl r
  have hln : ((Value.ref (hp.objs.size + 1) :: us) ++ []).length = ps.length := by
    have e := r2.length
    rw [F.len _ _ _ _ hq] at e
    rw [List.append_nil]
    exact e.symm
  refine wpAny_call (codeAny_mono (F.run _ X.stack _ _ ⟨Value.ref (hp.objs.size + 1) :: us, []⟩ (Value.ref (hp.objs.size + 1) :: us) _ _ E (hr.make C us []) (I2.env0.make C us []) (by have := hb _ (Value.ref (hp.objs.size + 1) :: us) I2.kIn hln; rw [List.append_nil] at this; exact this) r2 hq) fun rr s' hq' => ?_)
  cases rr with
  | error e => exact hx pins σ _ _ e s' I2 hq'
  | ok fl =>
    cases fl with
    | ret u =>
      obtain ⟨v, H', I3, rv, ev, q3⟩ := I2.after hq'
      subst ev
      exact ⟨rv, ⟨V.ref (hp.objs.size + 1), H', I3, rfl, q3⟩⟩
    | next => exact False.elim hq'
    | brk => exact False.elim hq'
    | cont => exact False.elim hq'
theorem pe_xmake {CX : CXT} {k : Nat} {f C U : Addr} {fd : FuncData} {ps : List Str} {sp : Sp} {E : XK} {x : Str} {p pos : Pos} {e : Expr} {es : List Expr} {t : TA} (T : XCls X.K C U) (hi : PySem.W.findIn X.K (.ref C) "__init__" = some (some (.ref f))) (hf : PySem.W.isFn X.K (.ref f) = true)
    (F : FnOk X.prog X.w X.K X.mg X.base CX k f fd ps sp) (hr : Room (k + 1) X.A) (hg : Gl X x) (hm : X.mg x = some (.ref C)) (hb : Binds X.K fd ps []) (hx : Passes CX X E) (hsm : ∀ vs H Q E, sp vs H Q E → vs.length ≤ 100)
    (ha : PA X (e :: es) t) (hdb : (x == ("__debug__" : Str)) = false := by decide) (he : starEach (e :: es) X.env = (false, eval e X.env) :: starEach es X.env := by rfl) (hpl : (backTo pos (starEach es X.env)).any (·.1) = false := by rfl) :
    PE X (.Call (.Name x p) (e :: es) [] pos) (tXMake C sp E t) := by
  intro pins s σ H Q I h
  refine wpAny_Call_Name_kw (ld_glob I hg hm ?_ hdb)
  refine PySem.W.callWith_K (h₀ := X.base) I.ok.mod.kin T.kp (thn (ha pos pins s σ H _ I h) fun us s1 ⟨vs, H1, I1, r, q⟩ => ⟨I1.kIn, ?_⟩) he hpl
  have hl : us.length ≤ sizeLine := by
    have e1 := hsm _ _ _ _ (q _ (I1.hok.fresh (Nat.le_refl _)))
    rw [List.length_cons] at e1
    have e2 := r.length
    exact Nat.le_trans (show us.length ≤ 100 by omega) (by decide)
  exact run_xmake T hi hf F hr hb hx I1 r hl q
/-- C(), C without an __init__ of its own -/
def tXMake0 (C : Addr) : TE := fun _ H Q => ∀ x, H x = none → Q (.ref x) (upd H x (XO C x none))
theorem pe_xmake0 {C U : Addr} {x : Str} {p pos : Pos} (T : XCls X.K C U) (hi : PySem.W.findIn X.K (.ref C) "__init__" = some (some (.builtin "ValueError.__init__"))) (hg : Gl X x) (hm : X.mg x = some (.ref C)) (hdb : (x == ("__debug__" : Str)) = false := by decide) :
    PE X (.Call (.Name x p) [] [] pos) (tXMake0 C) := by
  intro pins s σ H Q I h
  refine wpAny_Call_Name_kw (ld_glob I hg hm ?_ hdb)
  refine PySem.W.callWith_K0 I.kIn T.kp ?_
  obtain ⟨_, OT, nm, qn, N, bs, hdct, sn, sub, ab, col, dd, k0, k1, k2, k3, k5, hC⟩ := x_of I.kIn T.ex
  have hq := h (s.heap.objs.size + 1) (I.hok.fresh (Nat.le_succ _))
  obtain ⟨hp, g, d, t, os⟩ := s
  have F := PySem.F.excBase_ValueError
  refine x_make F (by decide) F OT hC (PySem.W.looks_findIn I.kIn hi) (fun self => PySem.W.Looks.of_pure (F.init.bind self)) (Nat.zero_le _) ?_
  have kp : ∀ b o, hp.get? b = some o → ((hp.push { cls := .type "tuple", data := .seq ([] : List Value).toArray }).push { cls := .ref C, data := .fields #[.ref hp.objs.size, .none, .none, .none, .bool false, .none] }).get? b = some o := fun b o e => Heap.get?_push_of_some _ (Heap.get?_push_of_some _ e)
  have hE : ((hp.push { cls := .type "tuple", data := .seq ([] : List Value).toArray }).push { cls := .ref C, data := .fields #[.ref hp.objs.size, .none, .none, .none, .bool false, .none] }).get? (hp.objs.size + 1) = some { cls := .ref C, data := .fields #[.ref hp.objs.size, .none, .none, .none, .bool false, .none] } := by heap_get
  refine wpAny_call (codeAny_call_builtin F.init.plain F.initEntry (wpAny_check_init_subU F (OT.keeps kp) (kp _ _ hC) hE rfl ?_))
  wp_walk
  refine ⟨rfl, .ref (hp.objs.size + 1), _, I.laid (t' := t) (a := hp.objs.size + 1) (o := XO C (hp.objs.size + 1) none) (fun b o e => ?_) (Nat.le_succ _) (xo_ok (Heap.get?_update_self _ (Heap.get?_push_of_some _ hE) rfl)), rfl, hq⟩
  exact (Heap.get?_update_ne _ _ _ _ (Nat.ne_of_lt (Nat.lt_succ_of_lt (Heap.lt_size e)))).trans (Heap.get?_push_of_some _ (kp b o e))
end
end L2

set_option Elab.async false
set_option linter.all false
set_option maxRecDepth 100000
set_option maxHeartbeats 4000000
namespace Mine
open PySem L2
def top (i : Nat) : Stmt := PySem.Challenge.pw_unsaybook_k06_refusals_apart.main.body.getD i (.Pass ⟨0, 0, 0, 0⟩)
abbrev sCell : Stmt := top 16
abbrev sMixed : Stmt := top 17
abbrev sKinds : Stmt := top 18
abbrev sMade : Stmt := top 19
abbrev sField : Stmt := top 20
abbrev sLaw : Stmt := top 21
abbrev sInit0 : Stmt := inClass (top 3) 0
abbrev sInit1 : Stmt := inClass (top 4) 0
abbrev sInit2 : Stmt := inClass (top 5) 0
abbrev sInit3 : Stmt := inClass (top 6) 0
abbrev sInit4 : Stmt := inClass (top 7) 0
abbrev sInit5 : Stmt := inClass (top 8) 0
abbrev sInit6 : Stmt := inClass (top 10) 0
abbrev sInit7 : Stmt := inClass (top 11) 0
abbrev sInit8 : Stmt := inClass (top 13) 0
/-! ### promises -/
def spCell (K : PySem.W.Frag) : Sp := fun vs H Q _ => ∃ (a : Addr) (ns : List Int) (k : Int), vs = [.ref a, .int k] ∧ SqL K H a (ns.map V.int) ∧ 0 ≤ k ∧ ∀ n : Int, Q (.int n) H
def spMixed : Sp := fun vs H Q _ => ∃ (c k : Int), vs = [.int c, .int k] ∧ 0 ≤ k ∧ k ≤ 1000 ∧ ∀ n : Int, 0 ≤ n → n < 1099511627776 → Q (.int n) H
section
variable {P : Program} {w : World} {K : PySem.W.Frag} {mg : Str → Option Value} {base : Heap}
theorem scCell : FnScope ["_law_script", "_law_k"] ["_law_script", "_law_k"] (defScope sCell) := ⟨rfl, rfl, rfl, by decide +kernel, rfl, by decide +kernel, by decide +kernel⟩
theorem ok_cell {f : Addr} {fd : FuncData} (F : Fun K "_law_cell" "_law_cell" sCell f fd) (hlen : mg "len" = none) : FnOk P w K mg base CX0 1 f fd ["_law_script", "_law_k"] (spCell K) := by
  refine F.ok scCell (fun vs H Q E h => ?_) (fun cdv A outer s H vs Q E hr h => ?_)
  · obtain ⟨a, ns, k, rfl, _⟩ := h
    rfl
  · obtain ⟨a, ns, k, rfl, hS, hk, q⟩ := h
    refine ⟨_, pss_cons (ps_if (pt_cmpR op_lt (pv 1) (pe_callB call_len_seq (by rfl) hlen PySem.boot_len (pa_cons (pv 0) pa_nil)) (nomark _)) (pss_one (ps_ret (pe_ix ix_list (pv 0) (pv 1) (fun _ _ => rfl)))) pss_nil)
      (pss_one (ps_ret (pe_op op_add (pe_op op_mul pe_int (pv 1)) pe_int))), ?_⟩
    refine ⟨_, rfl, _, rfl, a, _, rfl, .inl hS, _, _, rfl, rfl, _, rfl, ?_⟩
    refine ite2 (fun hlt => ?_) (fun _ => ?_)
    · have hlt : k < ((ns.map V.int).length : Int) := of_decide_eq_true hlt
      rw [List.length_map] at hlt
      obtain ⟨j, rfl⟩ : ∃ j : Nat, k = (j : Int) := ⟨k.toNat, by omega⟩
      have hk2 : j < ns.length := by omega
      refine ⟨_, rfl, _, rfl, a, _, (j : Int), .int ns[j], rfl, rfl, hS, atI_nat ?_, q _⟩
      rw [List.getElem?_map, List.getElem?_eq_getElem hk2]
      rfl
    · exact ⟨_, rfl, _, _, rfl, rfl, .inl ⟨by decide, by decide⟩, _, _, rfl, rfl, q _⟩
theorem scMixed : FnScope ["_law_cell_here", "_law_k", "_law_number"] ["_law_cell_here", "_law_k"] (defScope sMixed) := ⟨rfl, rfl, rfl, by decide +kernel, rfl, by decide +kernel, by decide +kernel⟩
theorem ok_mixed {f : Addr} {fd : FuncData} (F : Fun K "_law_mixed" "_law_mixed" sMixed f fd) : FnOk P w K mg base CX0 1 f fd ["_law_cell_here", "_law_k"] spMixed := by
  refine F.ok scMixed (fun vs H Q E h => ?_) (fun cdv A outer s H vs Q E hr h => ?_)
  · obtain ⟨c, k, rfl, _⟩ := h
    rfl
  · obtain ⟨c, k, rfl, hk, hk2, q⟩ := h
    refine ⟨_, pss_cons (ps_if (pw_and (pt_cmpR op_ge (pv 0) (pe_op op_pow pe_int pe_int) (nomark _)) (pw_and1 (pt_cmpR op_gt (pe_op op_shr (pv 0) (pe_op op_mul pe_int (pv 1))) pe_int (nomark _)))).pt
        (pss_one (ps_ret (pe_op op_mod (pe_op op_shr (pv 0) (pe_op op_mul pe_int (pv 1))) (pe_op op_pow pe_int pe_int)))) pss_nil)
      (pss_cons (ps_set (i := 2) scMixed.nd rfl (Or.inl rfl) (pe_op op_mod (pe_op op_add (pv 0) (pe_op op_mul pe_int (pv 1))) pe_int))
      (pss_cons (ps_set (i := 2) scMixed.nd rfl (Or.inl rfl) (pe_op op_mod (pe_op op_add (pe_op op_mul (pv 2) pe_int) (pv 1)) pe_int))
      (pss_cons (ps_set (i := 2) scMixed.nd rfl (Or.inl rfl) (pe_op op_mod (pe_op op_mul (pv 2) (pe_op op_add (pv 2) pe_int)) pe_int))
      (pss_one (ps_ret (pe_op op_mod (pe_op op_mul (pv 2) (pe_op op_add (pv 2) pe_int)) pe_int)))))), ?_⟩
    have hk0 : (0 : Int) ≤ 40 * k := by omega
    have small : ∀ (x : Int) {m : Int}, 0 < m → m < 2 ^ 64 → -(2 ^ 64) < x % m ∧ x % m < 2 ^ 64 := fun x m h1 h2 => by
      have a := Int.emod_nonneg x (Int.ne_of_gt h1)
      have b := Int.emod_lt_of_pos x h1
      omega
    refine ⟨_, rfl, 10, 18, rfl, rfl, ⟨by decide, by decide, by decide⟩, _, _, rfl, rfl, _, rfl, ?_⟩
    refine ite2 (fun _ => ?_) (fun _ => iteF ?_)
    · refine ⟨_, rfl, _, rfl, _, _, rfl, rfl, .inl ⟨by decide, by decide⟩, _, _, rfl, rfl, hk0, _, _, rfl, rfl, _, rfl, ?_⟩
      refine ite2 (fun _ => ?_) (fun _ => ?_)
      · refine ⟨_, rfl, _, rfl, _, _, rfl, rfl, .inl ⟨by decide, by decide⟩, _, _, rfl, rfl, hk0, 2, 40, rfl, rfl, ⟨by decide, by decide, by decide⟩, _, _, rfl, rfl, (by show (0 : Int) < 2 ^ Int.toNat 40; decide), ?_⟩
        exact q _ (Int.emod_nonneg _ (by decide)) (Int.emod_lt_of_pos _ (by decide))
      · refine ⟨_, rfl, _, rfl, _, _, rfl, rfl, .inl ⟨by decide, by decide⟩, _, _, rfl, rfl, _, _, rfl, rfl, (by show (0 : Int) < 2147483647; decide), ?_⟩
        refine ⟨_, rfl, _, _, rfl, rfl, .inr ⟨by decide, by decide⟩, _, rfl, _, _, rfl, rfl, _, _, rfl, rfl, (by show (0 : Int) < 2147483647; decide), ?_⟩
        refine ⟨_, rfl, _, rfl, _, _, rfl, rfl, _, _, rfl, rfl, .inl (small _ (by decide) (by decide)), _, _, rfl, rfl, (by show (0 : Int) < 2147483629; decide), ?_⟩
        refine ⟨_, rfl, _, rfl, _, _, rfl, rfl, _, _, rfl, rfl, .inl (small _ (by decide) (by decide)), _, _, rfl, rfl, (by show (0 : Int) < 2147483587; decide), ?_⟩
        exact q _ (Int.emod_nonneg _ (by decide)) (Int.lt_trans (Int.emod_lt_of_pos _ (by decide)) (by decide))
    · refine ⟨_, rfl, _, rfl, _, _, rfl, rfl, .inl ⟨by decide, by decide⟩, _, _, rfl, rfl, _, _, rfl, rfl, (by show (0 : Int) < 2147483647; decide), ?_⟩
      refine ⟨_, rfl, _, _, rfl, rfl, .inr ⟨by decide, by decide⟩, _, rfl, _, _, rfl, rfl, _, _, rfl, rfl, (by show (0 : Int) < 2147483647; decide), ?_⟩
      refine ⟨_, rfl, _, rfl, _, _, rfl, rfl, _, _, rfl, rfl, .inl (small _ (by decide) (by decide)), _, _, rfl, rfl, (by show (0 : Int) < 2147483629; decide), ?_⟩
      refine ⟨_, rfl, _, rfl, _, _, rfl, rfl, _, _, rfl, rfl, .inl (small _ (by decide) (by decide)), _, _, rfl, rfl, (by show (0 : Int) < 2147483587; decide), ?_⟩
      exact q _ (Int.emod_nonneg _ (by decide)) (Int.lt_trans (Int.emod_lt_of_pos _ (by decide)) (by decide))
end
def Grow (H H' : Hp) : Prop := ∀ b o, H b = some o → H' b = some o
theorem Grow.refl {H : Hp} : Grow H H := fun _ _ e => e
theorem Grow.trans {H H1 H2 : Hp} (g : Grow H H1) (g' : Grow H1 H2) : Grow H H2 := fun b o e => g' b o (g b o e)
theorem Grow.new {H : Hp} {a : Addr} {o : HO} (n : H a = none) : Grow H (upd H a o) := fun b o e => by rw [upd_ne (ne_of_none e n)]; exact e
theorem Grow.seq {K : PySem.W.Frag} {H H' : Hp} (g : Grow H H') {a : Addr} {xs : List V} (h : SqL K H a xs) : SqL K H' a xs := by
  rcases h with (h | ⟨o, h⟩) | h
  · exact .inl (.inl (g _ _ h))
  · exact .inl (.inr ⟨o, g _ _ h⟩)
  · exact .inr h
theorem xgrow {H H' : Hp} (g : Grow H H') {e C : Addr} {fs : List (Str × V)} (x : XAt H e C fs) : XAt H' e C fs := by
  obtain ⟨D, h1, h2⟩ := x
  refine ⟨D, g _ _ h1, ?_⟩
  rcases h2 with h2 | ⟨d, h2, h3⟩
  · exact .inl h2
  · exact .inr ⟨d, h2, g _ _ h3⟩
theorem made1 {H : Hp} {x d C : Addr} {f : Str} {v : V} (n : H x = none) (nd : upd H x (XO C x none) d = none) :
    Grow H (upd (upd (upd H x (XO C x none)) d (.xd [(f, v)])) x (XO C x (some d))) ∧ XAt (upd (upd (upd H x (XO C x none)) d (.xd [(f, v)])) x (XO C x (some d))) x C [(f, v)] := by
  have dx : d ≠ x := fun z => by rw [z, upd_same] at nd; cases nd
  have nd0 : H d = none := by rw [upd_ne dx] at nd; exact nd
  refine ⟨fun b o e => ?_, some d, upd_same, .inr ⟨d, rfl, by rw [upd_ne dx, upd_same]⟩⟩
  rw [upd_ne (ne_of_none e n), upd_ne (ne_of_none e nd0), upd_ne (ne_of_none e n)]
  exact e
theorem made0 {H : Hp} {x C : Addr} (n : H x = none) : Grow H (upd H x (XO C x none)) ∧ XAt (upd H x (XO C x none)) x C [] := ⟨Grow.new n, none, upd_same, .inl ⟨rfl, rfl⟩⟩
/-- the field of each refusal -/
def fieldOf : Nat → Option Str
  | 0 => some "key"
  | 1 => some "day"
  | 2 => some "thing"
  | 3 => some "number"
  | 4 => some "number"
  | 5 => some "turn"
  | 6 => some "place"
  | 7 => some "name"
  | 8 => some "number"
  | _ => none
def fldsOf (i : Nat) (v : V) : List (Str × V) := match fieldOf i with
  | some f => [(f, v)]
  | none => []
/-- the thirteen classes, as the top has made them -/
structure Kits (K : PySem.W.Frag) (U : Addr) (cs : List Addr) : Prop where
  len : cs.length = 13
  cl : ∀ (i : Nat) (C : Addr), cs[i]? = some C → XCls K C U
  kit : ∀ (i j : Nat) (C D : Addr), cs[i]? = some C → cs[j]? = some D → PySem.W.kitOne K (.ref C) (.ref D) = some (decide (i = j))
  up : ∀ (i : Nat) (C : Addr), cs[i]? = some C → PySem.W.kitOne K (.ref C) (.ref U) = some true ∧ PySem.W.kitOne K (.ref C) (.type "ValueError") = some true
  nf : ∀ (i : Nat) (C : Addr) (f : Str), cs[i]? = some C → fieldOf i = some f → PySem.W.findIn K (.ref C) f = some none
structure Fre (mg : Str → Option Value) : Prop where
  isinstance : mg "isinstance" = none
  len : mg "len" = none
  range : mg "range" = none
  max : mg "max" = none
  min : mg "min" = none
  valueError : mg "ValueError" = none
structure Cal (P : Program) (w : World) (K : PySem.W.Frag) (mg : Str → Option Value) (base : Heap) (x : Str) (k : Nat) (ps : List Str) (sp : Sp) (f : Addr) (fd : FuncData) : Prop where
  ok : FnOk P w K mg base CX0 k f fd ps sp
  nm : mg x = some (.ref f)
  kp : PySem.W.keepIn K (.ref f) = true
  bd : Binds K fd ps []
/-- an __init__ that stores its one field -/
def spInit (K : PySem.W.Frag) (f : Str) : Sp := fun vs H Q _ => ∃ (e C U : Addr) (v : V), vs = [.ref e, v] ∧ H e = some (XO C e none) ∧ XCls K C U ∧ PySem.W.findIn K (.ref C) f = some none ∧ ∀ d, H d = none → Q .non (upd (upd H d (.xd [(f, v)])) e (XO C e (some d)))
/-- a class that is made with one thing: its __init__ -/
structure Mk1 (P : Program) (w : World) (K : PySem.W.Frag) (mg : Str → Option Value) (base : Heap) (x : Str) (C : Addr) (f : Str) (fI : Addr) (fd : FuncData) : Prop where
  ok : FnOk P w K mg base CX0 1 fI fd ["self", f] (spInit K f)
  nm : mg x = some (.ref C)
  init : PySem.W.findIn K (.ref C) "__init__" = some (some (.ref fI))
  fn : PySem.W.isFn K (.ref fI) = true
  bd : Binds K fd ["self", f] []
structure Mk0 (K : PySem.W.Frag) (mg : Str → Option Value) (x : Str) (C : Addr) : Prop where
  nm : mg x = some (.ref C)
  init : PySem.W.findIn K (.ref C) "__init__" = some (some (.builtin "ValueError.__init__"))
theorem init_few {K : PySem.W.Frag} {f : Str} : ∀ vs H Q E, spInit K f vs H Q E → vs.length ≤ 100 := fun vs H Q E h => by
  obtain ⟨e, C, U, v, rfl, _⟩ := h
  show 2 ≤ 100
  decide
def LT (i : Nat) : List V := (List.range 13).map fun j => V.bl (decide (i = j))
section
variable {P : Program} {w : World} {K : PySem.W.Frag} {mg : Str → Option Value} {base : Heap}
theorem scInit0 : FnScope ["self", "key"] ["self", "key"] (defScope sInit0) := ⟨rfl, rfl, rfl, by decide +kernel, rfl, by decide +kernel, by decide +kernel⟩
theorem ok_init0 {f : Addr} {fd : FuncData} (F : Fun K "__init__" "NoKey.__init__" sInit0 f fd) : FnOk P w K mg base CX0 1 f fd ["self", "key"] (spInit K "key") := by
  refine F.ok (k := 0) scInit0 (fun vs H Q E h => ?_) (fun cdv A outer s H vs Q E hr h => ?_)
  · obtain ⟨e, C, U, v, rfl, _⟩ := h
    rfl
  · obtain ⟨e, C, U, v, rfl, he, T, hn, hq⟩ := h
    exact ⟨_, pss_one (ps_xfld (pv 0) (pv 1) rfl), _, rfl, _, rfl, e, C, U, rfl, he, T, hn, hq⟩
theorem scInit1 : FnScope ["self", "day"] ["self", "day"] (defScope sInit1) := ⟨rfl, rfl, rfl, by decide +kernel, rfl, by decide +kernel, by decide +kernel⟩
theorem ok_init1 {f : Addr} {fd : FuncData} (F : Fun K "__init__" "NoDay.__init__" sInit1 f fd) : FnOk P w K mg base CX0 1 f fd ["self", "day"] (spInit K "day") := by
  refine F.ok (k := 0) scInit1 (fun vs H Q E h => ?_) (fun cdv A outer s H vs Q E hr h => ?_)
  · obtain ⟨e, C, U, v, rfl, _⟩ := h
    rfl
  · obtain ⟨e, C, U, v, rfl, he, T, hn, hq⟩ := h
    exact ⟨_, pss_one (ps_xfld (pv 0) (pv 1) rfl), _, rfl, _, rfl, e, C, U, rfl, he, T, hn, hq⟩
theorem scInit2 : FnScope ["self", "thing"] ["self", "thing"] (defScope sInit2) := ⟨rfl, rfl, rfl, by decide +kernel, rfl, by decide +kernel, by decide +kernel⟩
theorem ok_init2 {f : Addr} {fd : FuncData} (F : Fun K "__init__" "NoValue.__init__" sInit2 f fd) : FnOk P w K mg base CX0 1 f fd ["self", "thing"] (spInit K "thing") := by
  refine F.ok (k := 0) scInit2 (fun vs H Q E h => ?_) (fun cdv A outer s H vs Q E hr h => ?_)
  · obtain ⟨e, C, U, v, rfl, _⟩ := h
    rfl
  · obtain ⟨e, C, U, v, rfl, he, T, hn, hq⟩ := h
    exact ⟨_, pss_one (ps_xfld (pv 0) (pv 1) rfl), _, rfl, _, rfl, e, C, U, rfl, he, T, hn, hq⟩
theorem scInit3 : FnScope ["self", "number"] ["self", "number"] (defScope sInit3) := ⟨rfl, rfl, rfl, by decide +kernel, rfl, by decide +kernel, by decide +kernel⟩
theorem ok_init3 {f : Addr} {fd : FuncData} (F : Fun K "__init__" "NoFinding.__init__" sInit3 f fd) : FnOk P w K mg base CX0 1 f fd ["self", "number"] (spInit K "number") := by
  refine F.ok (k := 0) scInit3 (fun vs H Q E h => ?_) (fun cdv A outer s H vs Q E hr h => ?_)
  · obtain ⟨e, C, U, v, rfl, _⟩ := h
    rfl
  · obtain ⟨e, C, U, v, rfl, he, T, hn, hq⟩ := h
    exact ⟨_, pss_one (ps_xfld (pv 0) (pv 1) rfl), _, rfl, _, rfl, e, C, U, rfl, he, T, hn, hq⟩
theorem scInit4 : FnScope ["self", "number"] ["self", "number"] (defScope sInit4) := ⟨rfl, rfl, rfl, by decide +kernel, rfl, by decide +kernel, by decide +kernel⟩
theorem ok_init4 {f : Addr} {fd : FuncData} (F : Fun K "__init__" "Gone.__init__" sInit4 f fd) : FnOk P w K mg base CX0 1 f fd ["self", "number"] (spInit K "number") := by
  refine F.ok (k := 0) scInit4 (fun vs H Q E h => ?_) (fun cdv A outer s H vs Q E hr h => ?_)
  · obtain ⟨e, C, U, v, rfl, _⟩ := h
    rfl
  · obtain ⟨e, C, U, v, rfl, he, T, hn, hq⟩ := h
    exact ⟨_, pss_one (ps_xfld (pv 0) (pv 1) rfl), _, rfl, _, rfl, e, C, U, rfl, he, T, hn, hq⟩
theorem scInit5 : FnScope ["self", "turn"] ["self", "turn"] (defScope sInit5) := ⟨rfl, rfl, rfl, by decide +kernel, rfl, by decide +kernel, by decide +kernel⟩
theorem ok_init5 {f : Addr} {fd : FuncData} (F : Fun K "__init__" "NoTurn.__init__" sInit5 f fd) : FnOk P w K mg base CX0 1 f fd ["self", "turn"] (spInit K "turn") := by
  refine F.ok (k := 0) scInit5 (fun vs H Q E h => ?_) (fun cdv A outer s H vs Q E hr h => ?_)
  · obtain ⟨e, C, U, v, rfl, _⟩ := h
    rfl
  · obtain ⟨e, C, U, v, rfl, he, T, hn, hq⟩ := h
    exact ⟨_, pss_one (ps_xfld (pv 0) (pv 1) rfl), _, rfl, _, rfl, e, C, U, rfl, he, T, hn, hq⟩
theorem scInit6 : FnScope ["self", "place"] ["self", "place"] (defScope sInit6) := ⟨rfl, rfl, rfl, by decide +kernel, rfl, by decide +kernel, by decide +kernel⟩
theorem ok_init6 {f : Addr} {fd : FuncData} (F : Fun K "__init__" "BadQuestion.__init__" sInit6 f fd) : FnOk P w K mg base CX0 1 f fd ["self", "place"] (spInit K "place") := by
  refine F.ok (k := 0) scInit6 (fun vs H Q E h => ?_) (fun cdv A outer s H vs Q E hr h => ?_)
  · obtain ⟨e, C, U, v, rfl, _⟩ := h
    rfl
  · obtain ⟨e, C, U, v, rfl, he, T, hn, hq⟩ := h
    exact ⟨_, pss_one (ps_xfld (pv 0) (pv 1) rfl), _, rfl, _, rfl, e, C, U, rfl, he, T, hn, hq⟩
theorem scInit7 : FnScope ["self", "name"] ["self", "name"] (defScope sInit7) := ⟨rfl, rfl, rfl, by decide +kernel, rfl, by decide +kernel, by decide +kernel⟩
theorem ok_init7 {f : Addr} {fd : FuncData} (F : Fun K "__init__" "NoName.__init__" sInit7 f fd) : FnOk P w K mg base CX0 1 f fd ["self", "name"] (spInit K "name") := by
  refine F.ok (k := 0) scInit7 (fun vs H Q E h => ?_) (fun cdv A outer s H vs Q E hr h => ?_)
  · obtain ⟨e, C, U, v, rfl, _⟩ := h
    rfl
  · obtain ⟨e, C, U, v, rfl, he, T, hn, hq⟩ := h
    exact ⟨_, pss_one (ps_xfld (pv 0) (pv 1) rfl), _, rfl, _, rfl, e, C, U, rfl, he, T, hn, hq⟩
theorem scInit8 : FnScope ["self", "number"] ["self", "number"] (defScope sInit8) := ⟨rfl, rfl, rfl, by decide +kernel, rfl, by decide +kernel, by decide +kernel⟩
theorem ok_init8 {f : Addr} {fd : FuncData} (F : Fun K "__init__" "NoGiven.__init__" sInit8 f fd) : FnOk P w K mg base CX0 1 f fd ["self", "number"] (spInit K "number") := by
  refine F.ok (k := 0) scInit8 (fun vs H Q E h => ?_) (fun cdv A outer s H vs Q E hr h => ?_)
  · obtain ⟨e, C, U, v, rfl, _⟩ := h
    rfl
  · obtain ⟨e, C, U, v, rfl, he, T, hn, hq⟩ := h
    exact ⟨_, pss_one (ps_xfld (pv 0) (pv 1) rfl), _, rfl, _, rfl, e, C, U, rfl, he, T, hn, hq⟩
end
end Mine

set_option Elab.async false
set_option linter.all false
set_option maxRecDepth 100000
set_option maxHeartbeats 4000000
namespace Mine
open PySem L2
def spKinds (cs : List Addr) : Sp := fun vs H Q _ => ∃ (e C : Addr) (fs : List (Str × V)) (i : Nat), vs = [.ref e] ∧ cs[i]? = some C ∧ XAt H e C fs ∧ ∀ (l : Addr) (H' : Hp), Grow H H' → H' l = some (.lst (LT i)) → Q (.ref l) H'
section
variable {P : Program} {w : World} {K : PySem.W.Frag} {mg : Str → Option Value} {base : Heap}
theorem scKinds : FnScope ["_law_error", "_law_kinds_here"] ["_law_error"] (defScope sKinds) := ⟨rfl, rfl, rfl, by decide +kernel, rfl, by decide +kernel, by decide +kernel⟩
theorem ok_kinds {f U c0 c1 c2 c3 c4 c5 c6 c7 c8 c9 c10 c11 c12 : Addr} {fd : FuncData} (F : Fun K "_law_kinds" "_law_kinds" sKinds f fd) (N : Fre mg) (KK : Kits K U [c0, c1, c2, c3, c4, c5, c6, c7, c8, c9, c10, c11, c12]) (m0 : mg "NoKey" = some (.ref c0)) (m1 : mg "NoDay" = some (.ref c1)) (m2 : mg "NoValue" = some (.ref c2)) (m3 : mg "NoFinding" = some (.ref c3)) (m4 : mg "Gone" = some (.ref c4)) (m5 : mg "NoTurn" = some (.ref c5)) (m6 : mg "BadQuestion" = some (.ref c6)) (m7 : mg "NoName" = some (.ref c7)) (m8 : mg "NoGiven" = some (.ref c8)) (m9 : mg "NoKeys" = some (.ref c9)) (m10 : mg "Full" = some (.ref c10)) (m11 : mg "NoBox" = some (.ref c11)) (m12 : mg "NoLine" = some (.ref c12)) : FnOk P w K mg base CX0 1 f fd ["_law_error"] (spKinds [c0, c1, c2, c3, c4, c5, c6, c7, c8, c9, c10, c11, c12]) := by
  refine F.ok (k := 0) scKinds (fun vs H Q E h => ?_) (fun cdv A outer s H vs Q E hr h => ?_)
  · obtain ⟨e, C, fs, i, rfl, _⟩ := h
    rfl
  · obtain ⟨e, C, fs, i, rfl, hi, xa, hq⟩ := h
    refine ⟨_, (pss_cons (ps_set (i := 1) scKinds.nd rfl (Or.inl rfl) (pe_lst (pa_cons (pe_callB call_isinstX (by rfl) N.isinstance PyProof.Rows.Boot.«isinstance» (pa_cons (pv 0) (pa_cons (pe_glob (v := .ref c0) (by rfl) m0 rfl) pa_nil))) (pa_cons (pe_callB call_isinstX (by rfl) N.isinstance PyProof.Rows.Boot.«isinstance» (pa_cons (pv 0) (pa_cons (pe_glob (v := .ref c1) (by rfl) m1 rfl) pa_nil))) (pa_cons (pe_callB call_isinstX (by rfl) N.isinstance PyProof.Rows.Boot.«isinstance» (pa_cons (pv 0) (pa_cons (pe_glob (v := .ref c2) (by rfl) m2 rfl) pa_nil))) pa_nil)))))
      (pss_cons (ps_set (i := 1) scKinds.nd rfl (Or.inl rfl) (pe_op op_cat (pv 1) (pe_lst (pa_cons (pe_callB call_isinstX (by rfl) N.isinstance PyProof.Rows.Boot.«isinstance» (pa_cons (pv 0) (pa_cons (pe_glob (v := .ref c3) (by rfl) m3 rfl) pa_nil))) (pa_cons (pe_callB call_isinstX (by rfl) N.isinstance PyProof.Rows.Boot.«isinstance» (pa_cons (pv 0) (pa_cons (pe_glob (v := .ref c4) (by rfl) m4 rfl) pa_nil))) (pa_cons (pe_callB call_isinstX (by rfl) N.isinstance PyProof.Rows.Boot.«isinstance» (pa_cons (pv 0) (pa_cons (pe_glob (v := .ref c5) (by rfl) m5 rfl) pa_nil))) pa_nil))))))
      (pss_cons (ps_set (i := 1) scKinds.nd rfl (Or.inl rfl) (pe_op op_cat (pv 1) (pe_lst (pa_cons (pe_callB call_isinstX (by rfl) N.isinstance PyProof.Rows.Boot.«isinstance» (pa_cons (pv 0) (pa_cons (pe_glob (v := .ref c6) (by rfl) m6 rfl) pa_nil))) (pa_cons (pe_callB call_isinstX (by rfl) N.isinstance PyProof.Rows.Boot.«isinstance» (pa_cons (pv 0) (pa_cons (pe_glob (v := .ref c7) (by rfl) m7 rfl) pa_nil))) (pa_cons (pe_callB call_isinstX (by rfl) N.isinstance PyProof.Rows.Boot.«isinstance» (pa_cons (pv 0) (pa_cons (pe_glob (v := .ref c8) (by rfl) m8 rfl) pa_nil))) pa_nil))))))
      (pss_cons (ps_set (i := 1) scKinds.nd rfl (Or.inl rfl) (pe_op op_cat (pv 1) (pe_lst (pa_cons (pe_callB call_isinstX (by rfl) N.isinstance PyProof.Rows.Boot.«isinstance» (pa_cons (pv 0) (pa_cons (pe_glob (v := .ref c9) (by rfl) m9 rfl) pa_nil))) (pa_cons (pe_callB call_isinstX (by rfl) N.isinstance PyProof.Rows.Boot.«isinstance» (pa_cons (pv 0) (pa_cons (pe_glob (v := .ref c10) (by rfl) m10 rfl) pa_nil))) (pa_cons (pe_callB call_isinstX (by rfl) N.isinstance PyProof.Rows.Boot.«isinstance» (pa_cons (pv 0) (pa_cons (pe_glob (v := .ref c11) (by rfl) m11 rfl) pa_nil))) pa_nil))))))
      (pss_one (ps_ret (pe_op op_cat (pv 1) (pe_lst (pa_cons (pe_callB call_isinstX (by rfl) N.isinstance PyProof.Rows.Boot.«isinstance» (pa_cons (pv 0) (pa_cons (pe_glob (v := .ref c12) (by rfl) m12 rfl) pa_nil))) pa_nil))))))))), ?_⟩
    refine ⟨_, rfl, e, C, U, fs, _, _, rfl, xa, (KK.cl i C hi), .inl ⟨_, rfl, KK.kit i 0 C c0 hi rfl⟩, _, rfl, e, C, U, fs, _, _, rfl, xa, (KK.cl i C hi), .inl ⟨_, rfl, KK.kit i 1 C c1 hi rfl⟩, _, rfl, e, C, U, fs, _, _, rfl, xa, (KK.cl i C hi), .inl ⟨_, rfl, KK.kit i 2 C c2 hi rfl⟩, by show 3 ≤ sizeLine; decide, fun l0 n0 => ?_⟩
    have g0 : Grow H _ := Grow.new (o := .lst [V.bl (decide (i = 0)), V.bl (decide (i = 1)), V.bl (decide (i = 2))]) n0
    have e0 := @upd_same H l0 (.lst [V.bl (decide (i = 0)), V.bl (decide (i = 1)), V.bl (decide (i = 2))])
    refine ⟨_, rfl, _, rfl, e, C, U, fs, _, _, rfl, (xgrow g0 xa), (KK.cl i C hi), .inl ⟨_, rfl, KK.kit i 3 C c3 hi rfl⟩, _, rfl, e, C, U, fs, _, _, rfl, (xgrow g0 xa), (KK.cl i C hi), .inl ⟨_, rfl, KK.kit i 4 C c4 hi rfl⟩, _, rfl, e, C, U, fs, _, _, rfl, (xgrow g0 xa), (KK.cl i C hi), .inl ⟨_, rfl, KK.kit i 5 C c5 hi rfl⟩, by show 3 ≤ sizeLine; decide, fun a1 na1 => ?_⟩
    have ga1 := g0.trans (Grow.new (o := .lst [V.bl (decide (i = 3)), V.bl (decide (i = 4)), V.bl (decide (i = 5))]) na1)
    refine ⟨l0, a1, _, _, rfl, rfl, (Grow.new na1) _ _ e0, upd_same, by show 6 ≤ sizeLine; decide, fun l1 n1 => ?_⟩
    have g1 := ga1.trans (Grow.new (o := .lst ([V.bl (decide (i = 0)), V.bl (decide (i = 1)), V.bl (decide (i = 2))] ++ [V.bl (decide (i = 3)), V.bl (decide (i = 4)), V.bl (decide (i = 5))])) n1)
    refine ⟨_, rfl, _, rfl, e, C, U, fs, _, _, rfl, (xgrow g1 xa), (KK.cl i C hi), .inl ⟨_, rfl, KK.kit i 6 C c6 hi rfl⟩, _, rfl, e, C, U, fs, _, _, rfl, (xgrow g1 xa), (KK.cl i C hi), .inl ⟨_, rfl, KK.kit i 7 C c7 hi rfl⟩, _, rfl, e, C, U, fs, _, _, rfl, (xgrow g1 xa), (KK.cl i C hi), .inl ⟨_, rfl, KK.kit i 8 C c8 hi rfl⟩, by show 3 ≤ sizeLine; decide, fun a2 na2 => ?_⟩
    have ga2 := g1.trans (Grow.new (o := .lst [V.bl (decide (i = 6)), V.bl (decide (i = 7)), V.bl (decide (i = 8))]) na2)
    refine ⟨l1, a2, _, _, rfl, rfl, (Grow.new na2) _ _ upd_same, upd_same, by show 9 ≤ sizeLine; decide, fun l2 n2 => ?_⟩
    have g2 := ga2.trans (Grow.new (o := .lst ([V.bl (decide (i = 0)), V.bl (decide (i = 1)), V.bl (decide (i = 2)), V.bl (decide (i = 3)), V.bl (decide (i = 4)), V.bl (decide (i = 5))] ++ [V.bl (decide (i = 6)), V.bl (decide (i = 7)), V.bl (decide (i = 8))])) n2)
    refine ⟨_, rfl, _, rfl, e, C, U, fs, _, _, rfl, (xgrow g2 xa), (KK.cl i C hi), .inl ⟨_, rfl, KK.kit i 9 C c9 hi rfl⟩, _, rfl, e, C, U, fs, _, _, rfl, (xgrow g2 xa), (KK.cl i C hi), .inl ⟨_, rfl, KK.kit i 10 C c10 hi rfl⟩, _, rfl, e, C, U, fs, _, _, rfl, (xgrow g2 xa), (KK.cl i C hi), .inl ⟨_, rfl, KK.kit i 11 C c11 hi rfl⟩, by show 3 ≤ sizeLine; decide, fun a3 na3 => ?_⟩
    have ga3 := g2.trans (Grow.new (o := .lst [V.bl (decide (i = 9)), V.bl (decide (i = 10)), V.bl (decide (i = 11))]) na3)
    refine ⟨l2, a3, _, _, rfl, rfl, (Grow.new na3) _ _ upd_same, upd_same, by show 12 ≤ sizeLine; decide, fun l3 n3 => ?_⟩
    have g3 := ga3.trans (Grow.new (o := .lst ([V.bl (decide (i = 0)), V.bl (decide (i = 1)), V.bl (decide (i = 2)), V.bl (decide (i = 3)), V.bl (decide (i = 4)), V.bl (decide (i = 5)), V.bl (decide (i = 6)), V.bl (decide (i = 7)), V.bl (decide (i = 8))] ++ [V.bl (decide (i = 9)), V.bl (decide (i = 10)), V.bl (decide (i = 11))])) n3)
    refine ⟨_, rfl, _, rfl, e, C, U, fs, _, _, rfl, (xgrow g3 xa), (KK.cl i C hi), .inl ⟨_, rfl, KK.kit i 12 C c12 hi rfl⟩, by show 1 ≤ sizeLine; decide, fun a4 na4 => ?_⟩
    have ga4 := g3.trans (Grow.new (o := .lst [V.bl (decide (i = 12))]) na4)
    refine ⟨l3, a4, _, _, rfl, rfl, (Grow.new na4) _ _ upd_same, upd_same, by show 13 ≤ sizeLine; decide, fun l4 n4 => ?_⟩
    have g4 := ga4.trans (Grow.new (o := .lst ([V.bl (decide (i = 0)), V.bl (decide (i = 1)), V.bl (decide (i = 2)), V.bl (decide (i = 3)), V.bl (decide (i = 4)), V.bl (decide (i = 5)), V.bl (decide (i = 6)), V.bl (decide (i = 7)), V.bl (decide (i = 8)), V.bl (decide (i = 9)), V.bl (decide (i = 10)), V.bl (decide (i = 11))] ++ [V.bl (decide (i = 12))])) n4)
    exact hq l4 _ g4 upd_same
end
end Mine

set_option Elab.async false
set_option linter.all false
set_option maxRecDepth 100000
set_option maxHeartbeats 4000000
namespace Mine
open PySem L2
def spMade (cs : List Addr) : Sp := fun vs H Q _ => ∃ (i : Nat) (v : V), vs = [.int (i : Int), v] ∧ i < 13 ∧ ∀ (e C : Addr) (H' : Hp), Grow H H' → cs[i]? = some C → XAt H' e C (fldsOf i v) → Q (.ref e) H'
section
variable {P : Program} {w : World} {K : PySem.W.Frag} {mg : Str → Option Value} {base : Heap}
theorem scMade : FnScope ["_law_way", "_law_thing"] ["_law_way", "_law_thing"] (defScope sMade) := ⟨rfl, rfl, rfl, by decide +kernel, rfl, by decide +kernel, by decide +kernel⟩
theorem ok_made {f U c0 c1 c2 c3 c4 c5 c6 c7 c8 c9 c10 c11 c12 fI0 fI1 fI2 fI3 fI4 fI5 fI6 fI7 fI8 : Addr} {fd fdI0 fdI1 fdI2 fdI3 fdI4 fdI5 fdI6 fdI7 fdI8 : FuncData} (F : Fun K "_law_made" "_law_made" sMade f fd) (KK : Kits K U [c0, c1, c2, c3, c4, c5, c6, c7, c8, c9, c10, c11, c12]) (M0 : Mk1 P w K mg base "NoKey" c0 "key" fI0 fdI0) (M1 : Mk1 P w K mg base "NoDay" c1 "day" fI1 fdI1) (M2 : Mk1 P w K mg base "NoValue" c2 "thing" fI2 fdI2) (M3 : Mk1 P w K mg base "NoFinding" c3 "number" fI3 fdI3) (M4 : Mk1 P w K mg base "Gone" c4 "number" fI4 fdI4) (M5 : Mk1 P w K mg base "NoTurn" c5 "turn" fI5 fdI5) (M6 : Mk1 P w K mg base "BadQuestion" c6 "place" fI6 fdI6) (M7 : Mk1 P w K mg base "NoName" c7 "name" fI7 fdI7) (M8 : Mk1 P w K mg base "NoGiven" c8 "number" fI8 fdI8) (Z9 : Mk0 K mg "NoKeys" c9) (Z10 : Mk0 K mg "Full" c10) (Z11 : Mk0 K mg "NoBox" c11) (Z12 : Mk0 K mg "NoLine" c12) : FnOk P w K mg base CX0 3 f fd ["_law_way", "_law_thing"] (spMade [c0, c1, c2, c3, c4, c5, c6, c7, c8, c9, c10, c11, c12]) := by
  refine F.ok (k := 2) scMade (fun vs H Q E h => ?_) (fun cdv A outer s H vs Q E hr h => ?_)
  · obtain ⟨i, v, rfl, _⟩ := h
    rfl
  · obtain ⟨i, v, rfl, hi, hq⟩ := h
    refine ⟨_, (pss_cons (ps_if (pt_cmpR op_lt (pv 0) pe_int (nomark _)) (pss_one (ps_ret (pe_ix ix_list (pe_lst (pa_cons (pe_xmake (KK.cl 0 c0 rfl) M0.init M0.fn M0.ok hr rfl M0.nm M0.bd pass0 init_few (pa_cons (pv 1) pa_nil)) (pa_cons (pe_xmake (KK.cl 1 c1 rfl) M1.init M1.fn M1.ok hr rfl M1.nm M1.bd pass0 init_few (pa_cons (pv 1) pa_nil)) (pa_cons (pe_xmake (KK.cl 2 c2 rfl) M2.init M2.fn M2.ok hr rfl M2.nm M2.bd pass0 init_few (pa_cons (pv 1) pa_nil)) pa_nil)))) (pv 0) (fun _ _ => rfl)))) pss_nil)
      (pss_cons (ps_if (pt_cmpR op_lt (pv 0) pe_int (nomark _)) (pss_one (ps_ret (pe_ix ix_list (pe_lst (pa_cons (pe_xmake (KK.cl 3 c3 rfl) M3.init M3.fn M3.ok hr rfl M3.nm M3.bd pass0 init_few (pa_cons (pv 1) pa_nil)) (pa_cons (pe_xmake (KK.cl 4 c4 rfl) M4.init M4.fn M4.ok hr rfl M4.nm M4.bd pass0 init_few (pa_cons (pv 1) pa_nil)) (pa_cons (pe_xmake (KK.cl 5 c5 rfl) M5.init M5.fn M5.ok hr rfl M5.nm M5.bd pass0 init_few (pa_cons (pv 1) pa_nil)) pa_nil)))) (pe_op op_sub (pv 0) pe_int) (fun _ _ => rfl)))) pss_nil)
      (pss_cons (ps_if (pt_cmpR op_lt (pv 0) pe_int (nomark _)) (pss_one (ps_ret (pe_ix ix_list (pe_lst (pa_cons (pe_xmake (KK.cl 6 c6 rfl) M6.init M6.fn M6.ok hr rfl M6.nm M6.bd pass0 init_few (pa_cons (pv 1) pa_nil)) (pa_cons (pe_xmake (KK.cl 7 c7 rfl) M7.init M7.fn M7.ok hr rfl M7.nm M7.bd pass0 init_few (pa_cons (pv 1) pa_nil)) (pa_cons (pe_xmake (KK.cl 8 c8 rfl) M8.init M8.fn M8.ok hr rfl M8.nm M8.bd pass0 init_few (pa_cons (pv 1) pa_nil)) pa_nil)))) (pe_op op_sub (pv 0) pe_int) (fun _ _ => rfl)))) pss_nil)
      (pss_one (ps_ret (pe_ix ix_list (pe_lst (pa_cons (pe_xmake0 (KK.cl 9 c9 rfl) Z9.init rfl Z9.nm) (pa_cons (pe_xmake0 (KK.cl 10 c10 rfl) Z10.init rfl Z10.nm) (pa_cons (pe_xmake0 (KK.cl 11 c11 rfl) Z11.init rfl Z11.nm) (pa_cons (pe_xmake0 (KK.cl 12 c12 rfl) Z12.init rfl Z12.nm) pa_nil))))) (pe_op op_sub (pv 0) pe_int) (fun _ _ => rfl))))))), ?_⟩
    refine ⟨_, rfl, _, _, rfl, rfl, _, rfl, ite2 (fun h1 => ?_) (fun h1 => ?_)⟩
    · have h1 : (i : Int) < 3 := of_decide_eq_true h1
      refine ⟨_, rfl, fun x0 n0 => ⟨x0, c0, U, v, rfl, upd_same, KK.cl 0 c0 rfl, KK.nf 0 c0 _ rfl rfl, fun d0 nd0 => ⟨rfl, ?_⟩⟩⟩
      obtain ⟨g0, a0⟩ := made1 (f := "key") (v := v) n0 nd0
      refine ⟨_, rfl, fun x1 n1 => ⟨x1, c1, U, v, rfl, upd_same, KK.cl 1 c1 rfl, KK.nf 1 c1 _ rfl rfl, fun d1 nd1 => ⟨rfl, ?_⟩⟩⟩
      obtain ⟨g1, a1⟩ := made1 (f := "day") (v := v) n1 nd1
      refine ⟨_, rfl, fun x2 n2 => ⟨x2, c2, U, v, rfl, upd_same, KK.cl 2 c2 rfl, KK.nf 2 c2 _ rfl rfl, fun d2 nd2 => ⟨rfl, ?_⟩⟩⟩
      obtain ⟨g2, a2⟩ := made1 (f := "thing") (v := v) n2 nd2
      refine ⟨by show 3 ≤ sizeLine; decide, fun l nl => ?_⟩
      have gl := Grow.new (o := .lst [V.ref x0, V.ref x1, V.ref x2]) nl
      rcases (show i = 0 ∨ i = 1 ∨ i = 2 by omega) with rfl | rfl | rfl
      · exact ⟨_, rfl, l, _, _, V.ref x0, rfl, rfl, SqL.of upd_same, rfl, hq x0 c0 _ (((g0.trans g1).trans g2).trans gl) rfl (xgrow gl (xgrow g2 (xgrow g1 a0)))⟩
      · exact ⟨_, rfl, l, _, _, V.ref x1, rfl, rfl, SqL.of upd_same, rfl, hq x1 c1 _ (((g0.trans g1).trans g2).trans gl) rfl (xgrow gl (xgrow g2 a1))⟩
      · exact ⟨_, rfl, l, _, _, V.ref x2, rfl, rfl, SqL.of upd_same, rfl, hq x2 c2 _ (((g0.trans g1).trans g2).trans gl) rfl (xgrow gl a2)⟩
    have h1 : ¬ (i : Int) < 3 := fun z => h1 (decide_eq_true z)
    refine ⟨_, rfl, _, _, rfl, rfl, _, rfl, ite2 (fun h2 => ?_) (fun h2 => ?_)⟩
    · have h2 : (i : Int) < 6 := of_decide_eq_true h2
      refine ⟨_, rfl, fun x3 n3 => ⟨x3, c3, U, v, rfl, upd_same, KK.cl 3 c3 rfl, KK.nf 3 c3 _ rfl rfl, fun d3 nd3 => ⟨rfl, ?_⟩⟩⟩
      obtain ⟨g3, a3⟩ := made1 (f := "number") (v := v) n3 nd3
      refine ⟨_, rfl, fun x4 n4 => ⟨x4, c4, U, v, rfl, upd_same, KK.cl 4 c4 rfl, KK.nf 4 c4 _ rfl rfl, fun d4 nd4 => ⟨rfl, ?_⟩⟩⟩
      obtain ⟨g4, a4⟩ := made1 (f := "number") (v := v) n4 nd4
      refine ⟨_, rfl, fun x5 n5 => ⟨x5, c5, U, v, rfl, upd_same, KK.cl 5 c5 rfl, KK.nf 5 c5 _ rfl rfl, fun d5 nd5 => ⟨rfl, ?_⟩⟩⟩
      obtain ⟨g5, a5⟩ := made1 (f := "turn") (v := v) n5 nd5
      refine ⟨by show 3 ≤ sizeLine; decide, fun l nl => ?_⟩
      have gl := Grow.new (o := .lst [V.ref x3, V.ref x4, V.ref x5]) nl
      rcases (show i = 3 ∨ i = 4 ∨ i = 5 by omega) with rfl | rfl | rfl
      · exact ⟨_, rfl, _, _, rfl, rfl, l, _, _, V.ref x3, rfl, rfl, SqL.of upd_same, rfl, hq x3 c3 _ (((g3.trans g4).trans g5).trans gl) rfl (xgrow gl (xgrow g5 (xgrow g4 a3)))⟩
      · exact ⟨_, rfl, _, _, rfl, rfl, l, _, _, V.ref x4, rfl, rfl, SqL.of upd_same, rfl, hq x4 c4 _ (((g3.trans g4).trans g5).trans gl) rfl (xgrow gl (xgrow g5 a4))⟩
      · exact ⟨_, rfl, _, _, rfl, rfl, l, _, _, V.ref x5, rfl, rfl, SqL.of upd_same, rfl, hq x5 c5 _ (((g3.trans g4).trans g5).trans gl) rfl (xgrow gl a5)⟩
    have h2 : ¬ (i : Int) < 6 := fun z => h2 (decide_eq_true z)
    refine ⟨_, rfl, _, _, rfl, rfl, _, rfl, ite2 (fun h3 => ?_) (fun h3 => ?_)⟩
    · have h3 : (i : Int) < 9 := of_decide_eq_true h3
      refine ⟨_, rfl, fun x6 n6 => ⟨x6, c6, U, v, rfl, upd_same, KK.cl 6 c6 rfl, KK.nf 6 c6 _ rfl rfl, fun d6 nd6 => ⟨rfl, ?_⟩⟩⟩
      obtain ⟨g6, a6⟩ := made1 (f := "place") (v := v) n6 nd6
      refine ⟨_, rfl, fun x7 n7 => ⟨x7, c7, U, v, rfl, upd_same, KK.cl 7 c7 rfl, KK.nf 7 c7 _ rfl rfl, fun d7 nd7 => ⟨rfl, ?_⟩⟩⟩
      obtain ⟨g7, a7⟩ := made1 (f := "name") (v := v) n7 nd7
      refine ⟨_, rfl, fun x8 n8 => ⟨x8, c8, U, v, rfl, upd_same, KK.cl 8 c8 rfl, KK.nf 8 c8 _ rfl rfl, fun d8 nd8 => ⟨rfl, ?_⟩⟩⟩
      obtain ⟨g8, a8⟩ := made1 (f := "number") (v := v) n8 nd8
      refine ⟨by show 3 ≤ sizeLine; decide, fun l nl => ?_⟩
      have gl := Grow.new (o := .lst [V.ref x6, V.ref x7, V.ref x8]) nl
      rcases (show i = 6 ∨ i = 7 ∨ i = 8 by omega) with rfl | rfl | rfl
      · exact ⟨_, rfl, _, _, rfl, rfl, l, _, _, V.ref x6, rfl, rfl, SqL.of upd_same, rfl, hq x6 c6 _ (((g6.trans g7).trans g8).trans gl) rfl (xgrow gl (xgrow g8 (xgrow g7 a6)))⟩
      · exact ⟨_, rfl, _, _, rfl, rfl, l, _, _, V.ref x7, rfl, rfl, SqL.of upd_same, rfl, hq x7 c7 _ (((g6.trans g7).trans g8).trans gl) rfl (xgrow gl (xgrow g8 a7))⟩
      · exact ⟨_, rfl, _, _, rfl, rfl, l, _, _, V.ref x8, rfl, rfl, SqL.of upd_same, rfl, hq x8 c8 _ (((g6.trans g7).trans g8).trans gl) rfl (xgrow gl a8)⟩
    have h3 : ¬ (i : Int) < 9 := fun z => h3 (decide_eq_true z)
    refine fun x9 n9 => ?_
    obtain ⟨g9, a9⟩ := made0 (C := c9) n9
    refine fun x10 n10 => ?_
    obtain ⟨g10, a10⟩ := made0 (C := c10) n10
    refine fun x11 n11 => ?_
    obtain ⟨g11, a11⟩ := made0 (C := c11) n11
    refine fun x12 n12 => ?_
    obtain ⟨g12, a12⟩ := made0 (C := c12) n12
    refine ⟨by show 4 ≤ sizeLine; decide, fun l nl => ?_⟩
    have gl := Grow.new (o := .lst [V.ref x9, V.ref x10, V.ref x11, V.ref x12]) nl
    rcases (show i = 9 ∨ i = 10 ∨ i = 11 ∨ i = 12 by omega) with rfl | rfl | rfl | rfl
    · exact ⟨_, rfl, _, _, rfl, rfl, l, _, _, V.ref x9, rfl, rfl, SqL.of upd_same, rfl, hq x9 c9 _ ((((g9.trans g10).trans g11).trans g12).trans gl) rfl (xgrow gl (xgrow g12 (xgrow g11 (xgrow g10 a9))))⟩
    · exact ⟨_, rfl, _, _, rfl, rfl, l, _, _, V.ref x10, rfl, rfl, SqL.of upd_same, rfl, hq x10 c10 _ ((((g9.trans g10).trans g11).trans g12).trans gl) rfl (xgrow gl (xgrow g12 (xgrow g11 a10)))⟩
    · exact ⟨_, rfl, _, _, rfl, rfl, l, _, _, V.ref x11, rfl, rfl, SqL.of upd_same, rfl, hq x11 c11 _ ((((g9.trans g10).trans g11).trans g12).trans gl) rfl (xgrow gl (xgrow g12 a11))⟩
    · exact ⟨_, rfl, _, _, rfl, rfl, l, _, _, V.ref x12, rfl, rfl, SqL.of upd_same, rfl, hq x12 c12 _ ((((g9.trans g10).trans g11).trans g12).trans gl) rfl (xgrow gl a12)⟩
end
end Mine

set_option Elab.async false
set_option linter.all false
set_option maxRecDepth 100000
set_option maxHeartbeats 4000000
namespace Mine
open PySem L2
theorem look1 {f : Str} {v : V} : List.lookup f [(f, v)] = some v := by rw [List.lookup_cons, beq_self_eq_true]
def spField (cs : List Addr) : Sp := fun vs H Q _ => ∃ (e C : Addr) (i : Nat) (v : V), vs = [.ref e, v] ∧ cs[i]? = some C ∧ XAt H e C (fldsOf i v) ∧ Q v H
section
variable {P : Program} {w : World} {K : PySem.W.Frag} {mg : Str → Option Value} {base : Heap}
theorem scField : FnScope ["_law_error", "_law_thing"] ["_law_error", "_law_thing"] (defScope sField) := ⟨rfl, rfl, rfl, by decide +kernel, rfl, by decide +kernel, by decide +kernel⟩
theorem ok_field {f U c0 c1 c2 c3 c4 c5 c6 c7 c8 c9 c10 c11 c12 : Addr} {fd : FuncData} (F : Fun K "_law_field" "_law_field" sField f fd) (N : Fre mg) (KK : Kits K U [c0, c1, c2, c3, c4, c5, c6, c7, c8, c9, c10, c11, c12]) (m0 : mg "NoKey" = some (.ref c0)) (m1 : mg "NoDay" = some (.ref c1)) (m2 : mg "NoValue" = some (.ref c2)) (m3 : mg "NoFinding" = some (.ref c3)) (m4 : mg "Gone" = some (.ref c4)) (m5 : mg "NoTurn" = some (.ref c5)) (m6 : mg "BadQuestion" = some (.ref c6)) (m7 : mg "NoName" = some (.ref c7)) (m8 : mg "NoGiven" = some (.ref c8)) (m9 : mg "NoKeys" = some (.ref c9)) (m10 : mg "Full" = some (.ref c10)) (m11 : mg "NoBox" = some (.ref c11)) (m12 : mg "NoLine" = some (.ref c12)) : FnOk P w K mg base CX0 1 f fd ["_law_error", "_law_thing"] (spField [c0, c1, c2, c3, c4, c5, c6, c7, c8, c9, c10, c11, c12]) := by
  refine F.ok (k := 0) scField (fun vs H Q E h => ?_) (fun cdv A outer s H vs Q E hr h => ?_)
  · obtain ⟨e, C, i, v, rfl, _⟩ := h
    rfl
  · obtain ⟨e, C, i, v, rfl, hi, xa, hq⟩ := h
    refine ⟨_, (pss_cons (ps_if (pt_val (pe_callB call_isinstX (by rfl) N.isinstance PyProof.Rows.Boot.«isinstance» (pa_cons (pv 0) (pa_cons (pe_glob (v := .ref c0) (by rfl) m0 rfl) pa_nil)))) (pss_one (ps_ret (pe_xfld (pv 0)))) pss_nil)
      (pss_cons (ps_if (pt_val (pe_callB call_isinstX (by rfl) N.isinstance PyProof.Rows.Boot.«isinstance» (pa_cons (pv 0) (pa_cons (pe_glob (v := .ref c1) (by rfl) m1 rfl) pa_nil)))) (pss_one (ps_ret (pe_xfld (pv 0)))) pss_nil)
      (pss_cons (ps_if (pt_val (pe_callB call_isinstX (by rfl) N.isinstance PyProof.Rows.Boot.«isinstance» (pa_cons (pv 0) (pa_cons (pe_glob (v := .ref c2) (by rfl) m2 rfl) pa_nil)))) (pss_one (ps_ret (pe_xfld (pv 0)))) pss_nil)
      (pss_cons (ps_if (PW.pt (pw_or (pt_val (pe_callB call_isinstX (by rfl) N.isinstance PyProof.Rows.Boot.«isinstance» (pa_cons (pv 0) (pa_cons (pe_glob (v := .ref c3) (by rfl) m3 rfl) pa_nil)))) (pw_or (pt_val (pe_callB call_isinstX (by rfl) N.isinstance PyProof.Rows.Boot.«isinstance» (pa_cons (pv 0) (pa_cons (pe_glob (v := .ref c4) (by rfl) m4 rfl) pa_nil)))) (pw_or1 (pt_val (pe_callB call_isinstX (by rfl) N.isinstance PyProof.Rows.Boot.«isinstance» (pa_cons (pv 0) (pa_cons (pe_glob (v := .ref c8) (by rfl) m8 rfl) pa_nil)))))))) (pss_one (ps_ret (pe_xfld (pv 0)))) pss_nil)
      (pss_cons (ps_if (pt_val (pe_callB call_isinstX (by rfl) N.isinstance PyProof.Rows.Boot.«isinstance» (pa_cons (pv 0) (pa_cons (pe_glob (v := .ref c5) (by rfl) m5 rfl) pa_nil)))) (pss_one (ps_ret (pe_xfld (pv 0)))) pss_nil)
      (pss_cons (ps_if (pt_val (pe_callB call_isinstX (by rfl) N.isinstance PyProof.Rows.Boot.«isinstance» (pa_cons (pv 0) (pa_cons (pe_glob (v := .ref c6) (by rfl) m6 rfl) pa_nil)))) (pss_one (ps_ret (pe_xfld (pv 0)))) pss_nil)
      (pss_cons (ps_if (pt_val (pe_callB call_isinstX (by rfl) N.isinstance PyProof.Rows.Boot.«isinstance» (pa_cons (pv 0) (pa_cons (pe_glob (v := .ref c7) (by rfl) m7 rfl) pa_nil)))) (pss_one (ps_ret (pe_xfld (pv 0)))) pss_nil)
      (pss_one (ps_ret (pv 1)))))))))), ?_⟩
    have hi13 : i < 13 := (List.getElem?_eq_some_iff.mp hi).1
    rcases (show i = 0 ∨ i = 1 ∨ i = 2 ∨ i = 3 ∨ i = 4 ∨ i = 5 ∨ i = 6 ∨ i = 7 ∨ i = 8 ∨ i = 9 ∨ i = 10 ∨ i = 11 ∨ i = 12 by omega) with rfl | rfl | rfl | rfl | rfl | rfl | rfl | rfl | rfl | rfl | rfl | rfl | rfl
    · cases hi
      exact ⟨_, rfl, e, c0, U, _, _, _, rfl, xa, KK.cl 0 c0 rfl, .inl ⟨_, rfl, KK.kit 0 0 c0 c0 rfl rfl⟩, _, rfl, iteT ⟨_, rfl, e, c0, U, _, v, rfl, xa, KK.cl 0 c0 rfl, KK.nf 0 c0 _ rfl rfl, look1, hq⟩⟩
    · cases hi
      exact ⟨_, rfl, e, c1, U, _, _, _, rfl, xa, KK.cl 1 c1 rfl, .inl ⟨_, rfl, KK.kit 1 0 c1 c0 rfl rfl⟩, _, rfl, iteF ⟨_, rfl, e, c1, U, _, _, _, rfl, xa, KK.cl 1 c1 rfl, .inl ⟨_, rfl, KK.kit 1 1 c1 c1 rfl rfl⟩, _, rfl, iteT ⟨_, rfl, e, c1, U, _, v, rfl, xa, KK.cl 1 c1 rfl, KK.nf 1 c1 _ rfl rfl, look1, hq⟩⟩⟩
    · cases hi
      exact ⟨_, rfl, e, c2, U, _, _, _, rfl, xa, KK.cl 2 c2 rfl, .inl ⟨_, rfl, KK.kit 2 0 c2 c0 rfl rfl⟩, _, rfl, iteF ⟨_, rfl, e, c2, U, _, _, _, rfl, xa, KK.cl 2 c2 rfl, .inl ⟨_, rfl, KK.kit 2 1 c2 c1 rfl rfl⟩, _, rfl, iteF ⟨_, rfl, e, c2, U, _, _, _, rfl, xa, KK.cl 2 c2 rfl, .inl ⟨_, rfl, KK.kit 2 2 c2 c2 rfl rfl⟩, _, rfl, iteT ⟨_, rfl, e, c2, U, _, v, rfl, xa, KK.cl 2 c2 rfl, KK.nf 2 c2 _ rfl rfl, look1, hq⟩⟩⟩⟩
    · cases hi
      exact ⟨_, rfl, e, c3, U, _, _, _, rfl, xa, KK.cl 3 c3 rfl, .inl ⟨_, rfl, KK.kit 3 0 c3 c0 rfl rfl⟩, _, rfl, iteF ⟨_, rfl, e, c3, U, _, _, _, rfl, xa, KK.cl 3 c3 rfl, .inl ⟨_, rfl, KK.kit 3 1 c3 c1 rfl rfl⟩, _, rfl, iteF ⟨_, rfl, e, c3, U, _, _, _, rfl, xa, KK.cl 3 c3 rfl, .inl ⟨_, rfl, KK.kit 3 2 c3 c2 rfl rfl⟩, _, rfl, iteF ⟨_, rfl, e, c3, U, _, _, _, rfl, xa, KK.cl 3 c3 rfl, .inl ⟨_, rfl, KK.kit 3 3 c3 c3 rfl rfl⟩, _, rfl, iteT (iteT ⟨_, rfl, e, c3, U, _, v, rfl, xa, KK.cl 3 c3 rfl, KK.nf 3 c3 _ rfl rfl, look1, hq⟩)⟩⟩⟩⟩
    · cases hi
      exact ⟨_, rfl, e, c4, U, _, _, _, rfl, xa, KK.cl 4 c4 rfl, .inl ⟨_, rfl, KK.kit 4 0 c4 c0 rfl rfl⟩, _, rfl, iteF ⟨_, rfl, e, c4, U, _, _, _, rfl, xa, KK.cl 4 c4 rfl, .inl ⟨_, rfl, KK.kit 4 1 c4 c1 rfl rfl⟩, _, rfl, iteF ⟨_, rfl, e, c4, U, _, _, _, rfl, xa, KK.cl 4 c4 rfl, .inl ⟨_, rfl, KK.kit 4 2 c4 c2 rfl rfl⟩, _, rfl, iteF ⟨_, rfl, e, c4, U, _, _, _, rfl, xa, KK.cl 4 c4 rfl, .inl ⟨_, rfl, KK.kit 4 3 c4 c3 rfl rfl⟩, _, rfl, iteF ⟨_, rfl, e, c4, U, _, _, _, rfl, xa, KK.cl 4 c4 rfl, .inl ⟨_, rfl, KK.kit 4 4 c4 c4 rfl rfl⟩, _, rfl, iteT (iteT ⟨_, rfl, e, c4, U, _, v, rfl, xa, KK.cl 4 c4 rfl, KK.nf 4 c4 _ rfl rfl, look1, hq⟩)⟩⟩⟩⟩⟩
    · cases hi
      exact ⟨_, rfl, e, c5, U, _, _, _, rfl, xa, KK.cl 5 c5 rfl, .inl ⟨_, rfl, KK.kit 5 0 c5 c0 rfl rfl⟩, _, rfl, iteF ⟨_, rfl, e, c5, U, _, _, _, rfl, xa, KK.cl 5 c5 rfl, .inl ⟨_, rfl, KK.kit 5 1 c5 c1 rfl rfl⟩, _, rfl, iteF ⟨_, rfl, e, c5, U, _, _, _, rfl, xa, KK.cl 5 c5 rfl, .inl ⟨_, rfl, KK.kit 5 2 c5 c2 rfl rfl⟩, _, rfl, iteF ⟨_, rfl, e, c5, U, _, _, _, rfl, xa, KK.cl 5 c5 rfl, .inl ⟨_, rfl, KK.kit 5 3 c5 c3 rfl rfl⟩, _, rfl, iteF ⟨_, rfl, e, c5, U, _, _, _, rfl, xa, KK.cl 5 c5 rfl, .inl ⟨_, rfl, KK.kit 5 4 c5 c4 rfl rfl⟩, _, rfl, iteF ⟨_, rfl, e, c5, U, _, _, _, rfl, xa, KK.cl 5 c5 rfl, .inl ⟨_, rfl, KK.kit 5 8 c5 c8 rfl rfl⟩, _, rfl, iteF ⟨_, rfl, e, c5, U, _, _, _, rfl, xa, KK.cl 5 c5 rfl, .inl ⟨_, rfl, KK.kit 5 5 c5 c5 rfl rfl⟩, _, rfl, iteT ⟨_, rfl, e, c5, U, _, v, rfl, xa, KK.cl 5 c5 rfl, KK.nf 5 c5 _ rfl rfl, look1, hq⟩⟩⟩⟩⟩⟩⟩⟩
    · cases hi
      exact ⟨_, rfl, e, c6, U, _, _, _, rfl, xa, KK.cl 6 c6 rfl, .inl ⟨_, rfl, KK.kit 6 0 c6 c0 rfl rfl⟩, _, rfl, iteF ⟨_, rfl, e, c6, U, _, _, _, rfl, xa, KK.cl 6 c6 rfl, .inl ⟨_, rfl, KK.kit 6 1 c6 c1 rfl rfl⟩, _, rfl, iteF ⟨_, rfl, e, c6, U, _, _, _, rfl, xa, KK.cl 6 c6 rfl, .inl ⟨_, rfl, KK.kit 6 2 c6 c2 rfl rfl⟩, _, rfl, iteF ⟨_, rfl, e, c6, U, _, _, _, rfl, xa, KK.cl 6 c6 rfl, .inl ⟨_, rfl, KK.kit 6 3 c6 c3 rfl rfl⟩, _, rfl, iteF ⟨_, rfl, e, c6, U, _, _, _, rfl, xa, KK.cl 6 c6 rfl, .inl ⟨_, rfl, KK.kit 6 4 c6 c4 rfl rfl⟩, _, rfl, iteF ⟨_, rfl, e, c6, U, _, _, _, rfl, xa, KK.cl 6 c6 rfl, .inl ⟨_, rfl, KK.kit 6 8 c6 c8 rfl rfl⟩, _, rfl, iteF ⟨_, rfl, e, c6, U, _, _, _, rfl, xa, KK.cl 6 c6 rfl, .inl ⟨_, rfl, KK.kit 6 5 c6 c5 rfl rfl⟩, _, rfl, iteF ⟨_, rfl, e, c6, U, _, _, _, rfl, xa, KK.cl 6 c6 rfl, .inl ⟨_, rfl, KK.kit 6 6 c6 c6 rfl rfl⟩, _, rfl, iteT ⟨_, rfl, e, c6, U, _, v, rfl, xa, KK.cl 6 c6 rfl, KK.nf 6 c6 _ rfl rfl, look1, hq⟩⟩⟩⟩⟩⟩⟩⟩⟩
    · cases hi
      exact ⟨_, rfl, e, c7, U, _, _, _, rfl, xa, KK.cl 7 c7 rfl, .inl ⟨_, rfl, KK.kit 7 0 c7 c0 rfl rfl⟩, _, rfl, iteF ⟨_, rfl, e, c7, U, _, _, _, rfl, xa, KK.cl 7 c7 rfl, .inl ⟨_, rfl, KK.kit 7 1 c7 c1 rfl rfl⟩, _, rfl, iteF ⟨_, rfl, e, c7, U, _, _, _, rfl, xa, KK.cl 7 c7 rfl, .inl ⟨_, rfl, KK.kit 7 2 c7 c2 rfl rfl⟩, _, rfl, iteF ⟨_, rfl, e, c7, U, _, _, _, rfl, xa, KK.cl 7 c7 rfl, .inl ⟨_, rfl, KK.kit 7 3 c7 c3 rfl rfl⟩, _, rfl, iteF ⟨_, rfl, e, c7, U, _, _, _, rfl, xa, KK.cl 7 c7 rfl, .inl ⟨_, rfl, KK.kit 7 4 c7 c4 rfl rfl⟩, _, rfl, iteF ⟨_, rfl, e, c7, U, _, _, _, rfl, xa, KK.cl 7 c7 rfl, .inl ⟨_, rfl, KK.kit 7 8 c7 c8 rfl rfl⟩, _, rfl, iteF ⟨_, rfl, e, c7, U, _, _, _, rfl, xa, KK.cl 7 c7 rfl, .inl ⟨_, rfl, KK.kit 7 5 c7 c5 rfl rfl⟩, _, rfl, iteF ⟨_, rfl, e, c7, U, _, _, _, rfl, xa, KK.cl 7 c7 rfl, .inl ⟨_, rfl, KK.kit 7 6 c7 c6 rfl rfl⟩, _, rfl, iteF ⟨_, rfl, e, c7, U, _, _, _, rfl, xa, KK.cl 7 c7 rfl, .inl ⟨_, rfl, KK.kit 7 7 c7 c7 rfl rfl⟩, _, rfl, iteT ⟨_, rfl, e, c7, U, _, v, rfl, xa, KK.cl 7 c7 rfl, KK.nf 7 c7 _ rfl rfl, look1, hq⟩⟩⟩⟩⟩⟩⟩⟩⟩⟩
    · cases hi
      exact ⟨_, rfl, e, c8, U, _, _, _, rfl, xa, KK.cl 8 c8 rfl, .inl ⟨_, rfl, KK.kit 8 0 c8 c0 rfl rfl⟩, _, rfl, iteF ⟨_, rfl, e, c8, U, _, _, _, rfl, xa, KK.cl 8 c8 rfl, .inl ⟨_, rfl, KK.kit 8 1 c8 c1 rfl rfl⟩, _, rfl, iteF ⟨_, rfl, e, c8, U, _, _, _, rfl, xa, KK.cl 8 c8 rfl, .inl ⟨_, rfl, KK.kit 8 2 c8 c2 rfl rfl⟩, _, rfl, iteF ⟨_, rfl, e, c8, U, _, _, _, rfl, xa, KK.cl 8 c8 rfl, .inl ⟨_, rfl, KK.kit 8 3 c8 c3 rfl rfl⟩, _, rfl, iteF ⟨_, rfl, e, c8, U, _, _, _, rfl, xa, KK.cl 8 c8 rfl, .inl ⟨_, rfl, KK.kit 8 4 c8 c4 rfl rfl⟩, _, rfl, iteF ⟨_, rfl, e, c8, U, _, _, _, rfl, xa, KK.cl 8 c8 rfl, .inl ⟨_, rfl, KK.kit 8 8 c8 c8 rfl rfl⟩, _, rfl, iteT ⟨_, rfl, e, c8, U, _, v, rfl, xa, KK.cl 8 c8 rfl, KK.nf 8 c8 _ rfl rfl, look1, hq⟩⟩⟩⟩⟩⟩⟩
    · cases hi
      exact ⟨_, rfl, e, c9, U, _, _, _, rfl, xa, KK.cl 9 c9 rfl, .inl ⟨_, rfl, KK.kit 9 0 c9 c0 rfl rfl⟩, _, rfl, iteF ⟨_, rfl, e, c9, U, _, _, _, rfl, xa, KK.cl 9 c9 rfl, .inl ⟨_, rfl, KK.kit 9 1 c9 c1 rfl rfl⟩, _, rfl, iteF ⟨_, rfl, e, c9, U, _, _, _, rfl, xa, KK.cl 9 c9 rfl, .inl ⟨_, rfl, KK.kit 9 2 c9 c2 rfl rfl⟩, _, rfl, iteF ⟨_, rfl, e, c9, U, _, _, _, rfl, xa, KK.cl 9 c9 rfl, .inl ⟨_, rfl, KK.kit 9 3 c9 c3 rfl rfl⟩, _, rfl, iteF ⟨_, rfl, e, c9, U, _, _, _, rfl, xa, KK.cl 9 c9 rfl, .inl ⟨_, rfl, KK.kit 9 4 c9 c4 rfl rfl⟩, _, rfl, iteF ⟨_, rfl, e, c9, U, _, _, _, rfl, xa, KK.cl 9 c9 rfl, .inl ⟨_, rfl, KK.kit 9 8 c9 c8 rfl rfl⟩, _, rfl, iteF ⟨_, rfl, e, c9, U, _, _, _, rfl, xa, KK.cl 9 c9 rfl, .inl ⟨_, rfl, KK.kit 9 5 c9 c5 rfl rfl⟩, _, rfl, iteF ⟨_, rfl, e, c9, U, _, _, _, rfl, xa, KK.cl 9 c9 rfl, .inl ⟨_, rfl, KK.kit 9 6 c9 c6 rfl rfl⟩, _, rfl, iteF ⟨_, rfl, e, c9, U, _, _, _, rfl, xa, KK.cl 9 c9 rfl, .inl ⟨_, rfl, KK.kit 9 7 c9 c7 rfl rfl⟩, _, rfl, iteF ⟨_, rfl, hq⟩⟩⟩⟩⟩⟩⟩⟩⟩⟩
    · cases hi
      exact ⟨_, rfl, e, c10, U, _, _, _, rfl, xa, KK.cl 10 c10 rfl, .inl ⟨_, rfl, KK.kit 10 0 c10 c0 rfl rfl⟩, _, rfl, iteF ⟨_, rfl, e, c10, U, _, _, _, rfl, xa, KK.cl 10 c10 rfl, .inl ⟨_, rfl, KK.kit 10 1 c10 c1 rfl rfl⟩, _, rfl, iteF ⟨_, rfl, e, c10, U, _, _, _, rfl, xa, KK.cl 10 c10 rfl, .inl ⟨_, rfl, KK.kit 10 2 c10 c2 rfl rfl⟩, _, rfl, iteF ⟨_, rfl, e, c10, U, _, _, _, rfl, xa, KK.cl 10 c10 rfl, .inl ⟨_, rfl, KK.kit 10 3 c10 c3 rfl rfl⟩, _, rfl, iteF ⟨_, rfl, e, c10, U, _, _, _, rfl, xa, KK.cl 10 c10 rfl, .inl ⟨_, rfl, KK.kit 10 4 c10 c4 rfl rfl⟩, _, rfl, iteF ⟨_, rfl, e, c10, U, _, _, _, rfl, xa, KK.cl 10 c10 rfl, .inl ⟨_, rfl, KK.kit 10 8 c10 c8 rfl rfl⟩, _, rfl, iteF ⟨_, rfl, e, c10, U, _, _, _, rfl, xa, KK.cl 10 c10 rfl, .inl ⟨_, rfl, KK.kit 10 5 c10 c5 rfl rfl⟩, _, rfl, iteF ⟨_, rfl, e, c10, U, _, _, _, rfl, xa, KK.cl 10 c10 rfl, .inl ⟨_, rfl, KK.kit 10 6 c10 c6 rfl rfl⟩, _, rfl, iteF ⟨_, rfl, e, c10, U, _, _, _, rfl, xa, KK.cl 10 c10 rfl, .inl ⟨_, rfl, KK.kit 10 7 c10 c7 rfl rfl⟩, _, rfl, iteF ⟨_, rfl, hq⟩⟩⟩⟩⟩⟩⟩⟩⟩⟩
    · cases hi
      exact ⟨_, rfl, e, c11, U, _, _, _, rfl, xa, KK.cl 11 c11 rfl, .inl ⟨_, rfl, KK.kit 11 0 c11 c0 rfl rfl⟩, _, rfl, iteF ⟨_, rfl, e, c11, U, _, _, _, rfl, xa, KK.cl 11 c11 rfl, .inl ⟨_, rfl, KK.kit 11 1 c11 c1 rfl rfl⟩, _, rfl, iteF ⟨_, rfl, e, c11, U, _, _, _, rfl, xa, KK.cl 11 c11 rfl, .inl ⟨_, rfl, KK.kit 11 2 c11 c2 rfl rfl⟩, _, rfl, iteF ⟨_, rfl, e, c11, U, _, _, _, rfl, xa, KK.cl 11 c11 rfl, .inl ⟨_, rfl, KK.kit 11 3 c11 c3 rfl rfl⟩, _, rfl, iteF ⟨_, rfl, e, c11, U, _, _, _, rfl, xa, KK.cl 11 c11 rfl, .inl ⟨_, rfl, KK.kit 11 4 c11 c4 rfl rfl⟩, _, rfl, iteF ⟨_, rfl, e, c11, U, _, _, _, rfl, xa, KK.cl 11 c11 rfl, .inl ⟨_, rfl, KK.kit 11 8 c11 c8 rfl rfl⟩, _, rfl, iteF ⟨_, rfl, e, c11, U, _, _, _, rfl, xa, KK.cl 11 c11 rfl, .inl ⟨_, rfl, KK.kit 11 5 c11 c5 rfl rfl⟩, _, rfl, iteF ⟨_, rfl, e, c11, U, _, _, _, rfl, xa, KK.cl 11 c11 rfl, .inl ⟨_, rfl, KK.kit 11 6 c11 c6 rfl rfl⟩, _, rfl, iteF ⟨_, rfl, e, c11, U, _, _, _, rfl, xa, KK.cl 11 c11 rfl, .inl ⟨_, rfl, KK.kit 11 7 c11 c7 rfl rfl⟩, _, rfl, iteF ⟨_, rfl, hq⟩⟩⟩⟩⟩⟩⟩⟩⟩⟩
    · cases hi
      exact ⟨_, rfl, e, c12, U, _, _, _, rfl, xa, KK.cl 12 c12 rfl, .inl ⟨_, rfl, KK.kit 12 0 c12 c0 rfl rfl⟩, _, rfl, iteF ⟨_, rfl, e, c12, U, _, _, _, rfl, xa, KK.cl 12 c12 rfl, .inl ⟨_, rfl, KK.kit 12 1 c12 c1 rfl rfl⟩, _, rfl, iteF ⟨_, rfl, e, c12, U, _, _, _, rfl, xa, KK.cl 12 c12 rfl, .inl ⟨_, rfl, KK.kit 12 2 c12 c2 rfl rfl⟩, _, rfl, iteF ⟨_, rfl, e, c12, U, _, _, _, rfl, xa, KK.cl 12 c12 rfl, .inl ⟨_, rfl, KK.kit 12 3 c12 c3 rfl rfl⟩, _, rfl, iteF ⟨_, rfl, e, c12, U, _, _, _, rfl, xa, KK.cl 12 c12 rfl, .inl ⟨_, rfl, KK.kit 12 4 c12 c4 rfl rfl⟩, _, rfl, iteF ⟨_, rfl, e, c12, U, _, _, _, rfl, xa, KK.cl 12 c12 rfl, .inl ⟨_, rfl, KK.kit 12 8 c12 c8 rfl rfl⟩, _, rfl, iteF ⟨_, rfl, e, c12, U, _, _, _, rfl, xa, KK.cl 12 c12 rfl, .inl ⟨_, rfl, KK.kit 12 5 c12 c5 rfl rfl⟩, _, rfl, iteF ⟨_, rfl, e, c12, U, _, _, _, rfl, xa, KK.cl 12 c12 rfl, .inl ⟨_, rfl, KK.kit 12 6 c12 c6 rfl rfl⟩, _, rfl, iteF ⟨_, rfl, e, c12, U, _, _, _, rfl, xa, KK.cl 12 c12 rfl, .inl ⟨_, rfl, KK.kit 12 7 c12 c7 rfl rfl⟩, _, rfl, iteF ⟨_, rfl, hq⟩⟩⟩⟩⟩⟩⟩⟩⟩⟩
end
end Mine

set_option Elab.async false
set_option linter.all false
set_option maxRecDepth 100000
set_option maxHeartbeats 4000000
namespace Mine
open PySem L2
/-- truths in a list, compared with the same -/
def shapedB (bs : List Bool) : Bool := SeqAt.shaped (.list (bs.map PyData.bool)) && PyData.eqv (.list (bs.map PyData.bool)) (.list (bs.map PyData.bool))
def rNeB : R2 := fun x y H Q => ∃ (a b : Addr) (bs : List Bool), x = .ref a ∧ y = .ref b ∧ H a = some (.lst (bs.map V.bl)) ∧ H b = some (.lst (bs.map V.bl)) ∧ shapedB bs = true ∧ Q (.bl false) H
theorem reads_bools {h : Heap} : ∀ {bs : List Bool} {us : List Value}, Vals (bs.map V.bl) us → ∃ as, ReadsAll h us (bs.map PyData.bool) as
  | [], _, r => by cases r; exact ⟨_, .nil⟩
  | b :: bs, _, r => by
    rw [List.map_cons] at r
    cases r with
    | cons a t =>
      cases a
      obtain ⟨as, q⟩ := reads_bools t
      exact ⟨_, .cons (.bool b) q⟩
open PySem.Spec PyProof.Rows in
theorem op_neB {X : Cx} (hu : X.A.units + 64 < cLine) : OpR X (compareOp .NotEq) rNeB := by
  intro pins s σ H x y v u Q I r1 r2 h
  obtain ⟨a, b, bs, rfl, rfl, ha, hb, hs, q⟩ := h
  cases r1
  cases r2
  obtain ⟨_, i1, n1, v1, e1⟩ := (show ObjOk X.prog X.w H s.heap a (.lst _) from I.hok a _ ha)
  obtain ⟨_, i2, n2, v2, e2⟩ := (show ObjOk X.prog X.w H s.heap b (.lst _) from I.hok b _ hb)
  obtain ⟨as1, q1⟩ := reads_bools (h := s.heap) v1
  obtain ⟨as2, q2⟩ := reads_bools (h := s.heap) v2
  unfold shapedB at hs
  rw [Bool.and_eq_true] at hs
  refine ne_dataH (reads_list_at e1 rfl rfl (by simpa using q1)) (reads_list_at e2 rfl rfl (by simpa using q2)) hs.1 hs.1 hu ?_
  rw [hs.2]
  exact ⟨.bl false, H, I, rfl, q⟩
def LB (i : Nat) : List Bool := (List.range 13).map fun j => decide (i = j)
theorem lt_lb (i : Nat) : LT i = (LB i).map V.bl := by unfold LT LB; rw [List.map_map]; rfl
theorem lb_ok : ∀ i, i < 13 → shapedB (LB i) = true := by decide +kernel
theorem tcomp_way {σ : St} {H : Hp} {Q : VK} {i : Nat} (e4 : σ[4]? = some (some (.int (0 + (i : Int))))) (hq : ∀ (D : Addr) (H' : Hp), H D = none → Grow H H' → H' D = some (.lst (LT i)) → Q (.ref D) H') :
    tComp (iRng1 (tCons (tC (.int 13)) tNil)) [4] (fun _ H Q => Q true H) (tOp rEq (tVar 1) (tVar 0)) σ H Q := by
  have es : subσ [4] σ = [some (.int (0 + (i : Int)))] := by
    show [(σ[4]?).join] = _
    rw [e4]; rfl
  refine ⟨13, rfl, by decide, by decide, fun D nD => comp_range (lo := 0) (n := 13) (sub := [4]) (σ := σ) (Q := Q) (tt := fun _ H Q => Q true H) (te := tOp rEq (tVar 1) (tVar 0)) (fun j ys H2 => ys = (List.range j).map (fun j => V.bl (decide (i = j))) ∧ H2 = upd H D (.lst ys)) ⟨rfl, rfl⟩ (fun j ys H2 hj hh => ?_) fun ys H2 hh => ?_⟩
  · obtain ⟨rfl, rfl⟩ := hh
    rw [es]
    show (if true = true then _ else _)
    rw [if_pos rfl]
    refine ⟨_, rfl, _, rfl, rfl, upd_same, ?_, ?_, ?_⟩
    · rw [List.length_map, List.length_range]
      exact Nat.lt_of_lt_of_le hj (by decide)
    · rw [List.range_succ, List.map_append]
      congr 1
      show [V.bl (decide (V.int (0 + (i : Int)) = V.int (0 + (j : Int))))] = [V.bl (decide (i = j))]
      congr 2
      by_cases c : i = j
      · rw [c, decide_eq_true rfl, decide_eq_true rfl]
      · rw [decide_eq_false c, decide_eq_false]
        intro z
        injection z with z
        omega
    · rw [upd_upd]
  · obtain ⟨rfl, rfl⟩ := hh
    exact hq D _ nD (Grow.new nD) upd_same
/-- the things that are handed in -/
def ThingOk (H : Hp) (v : V) : Prop := (v = .non ∨ (∃ n : Int, v = .int n) ∨ (∃ x : Str, v = .str x) ∨ ∃ b : Bool, v = .bl b) ∨ ∃ (a : Addr) (n : Int), v = .ref a ∧ H a = some (.lst [.int n])
theorem ThingOk.ne {H : Hp} {v : V} (t : ThingOk H v) {Q : VK} (q : Q (.bl false) H) : rNe v v H Q ∨ rEqDat true v v H Q := by
  rcases t with t | ⟨a, n, rfl, ha⟩
  · refine .inl ⟨?_, ?_⟩
    · rcases t with rfl | ⟨n, rfl⟩ | ⟨x, rfl⟩ | ⟨b, rfl⟩ <;> rfl
    · rw [decide_eq_true rfl]; exact q
  · exact .inr ⟨_, _, .lst ha (.cons (.int n) .nil), .lst ha (.cons (.int n) .nil), rfl, rfl, true, ⟨fun _ => rfl, fun _ => rfl⟩, q⟩
theorem ThingOk.grow {H H' : Hp} (g : Grow H H') {v : V} (t : ThingOk H v) : ThingOk H' v := by
  rcases t with t | ⟨a, n, e, ha⟩
  · exact .inl t
  · exact .inr ⟨a, n, e, g _ _ ha⟩
def spLaw (K : PySem.W.Frag) : Sp := fun vs H Q _ => ∃ (a : Addr) (ns : List Int), vs = [.ref a] ∧ SqL K H a (ns.map V.int) ∧ ns.length ≤ 63 ∧ ∀ H', Q (.bl true) H'
section
variable {P : Program} {w : World} {K : PySem.W.Frag} {mg : Str → Option Value} {base : Heap}
theorem scLaw : FnScope ["_law_script", "_law_k", "_law_number", "_law_thing", "_law_way", "_law_error"] ["_law_script"] (defScope sLaw) := ⟨rfl, rfl, rfl, by decide +kernel, rfl, by decide +kernel, by decide +kernel⟩
theorem ok_law {f U f1 f2 f3 f4 f5 c0 c1 c2 c3 c4 c5 c6 c7 c8 c9 c10 c11 c12 : Addr} {fd fd1 fd2 fd3 fd4 fd5 : FuncData} (F : Fun K "law" "law" sLaw f fd) (N : Fre mg) (KK : Kits K U [c0, c1, c2, c3, c4, c5, c6, c7, c8, c9, c10, c11, c12]) (mU : mg "UnsayError" = some (.ref U))
    (CL : Cal P w K mg base "_law_cell" 3 ["_law_script", "_law_k"] (spCell K) f1 fd1) (CM : Cal P w K mg base "_law_mixed" 3 ["_law_cell_here", "_law_k"] spMixed f2 fd2) (CD : Cal P w K mg base "_law_made" 3 ["_law_way", "_law_thing"] (spMade [c0, c1, c2, c3, c4, c5, c6, c7, c8, c9, c10, c11, c12]) f3 fd3)
    (CK : Cal P w K mg base "_law_kinds" 3 ["_law_error"] (spKinds [c0, c1, c2, c3, c4, c5, c6, c7, c8, c9, c10, c11, c12]) f4 fd4) (CF : Cal P w K mg base "_law_field" 3 ["_law_error", "_law_thing"] (spField [c0, c1, c2, c3, c4, c5, c6, c7, c8, c9, c10, c11, c12]) f5 fd5) : FnOk P w K mg base CX0 4 f fd ["_law_script"] (spLaw K) := by
  refine F.ok (k := 3) scLaw (fun vs H Q E h => ?_) (fun cdv A outer s H vs Q E hr h => ?_)
  · obtain ⟨a, ns, rfl, _⟩ := h
    rfl
  · obtain ⟨a, ns, rfl, hS, hlen, hq⟩ := h
    refine ⟨_, (pss_cons (ps_for PassesOwn.never rfl (pi_range1 rfl N.range (pa_cons (pe_callB (call_max2 rfl) (by rfl) N.max PyProof.Rows.Boot.«max» (pa_cons pe_int (pa_cons (pe_callB (call_min2 rfl) (by rfl) N.min PyProof.Rows.Boot.«min» (pa_cons pe_int (pa_cons (pe_callB call_len_seq (by rfl) N.len PySem.boot_len (pa_cons (pv 0) pa_nil)) pa_nil))) pa_nil))) pa_nil)) (pg_name (i := 1) scLaw.nd rfl (Or.inl rfl)) (pss_cons (ps_set (i := 2) scLaw.nd rfl (Or.inl rfl) (pe_call CM.ok hr rfl CM.nm CM.kp CM.bd .nil pass0 (pa_cons (pe_call CL.ok hr rfl CL.nm CL.kp CL.bd .nil pass0 (pa_cons (pv 0) (pa_cons (pv 1) pa_nil))) (pa_cons pe_int pa_nil))))
      (pss_one (ps_for PassesOwn.never rfl (pi_list (pe_lst (pa_cons (pv 2) (pa_cons pe_non (pa_cons pe_str (pa_cons (pe_lst (pa_cons (pv 2) pa_nil)) (pa_cons pe_bl pa_nil))))))) (pg_name (i := 3) scLaw.nd rfl (Or.inl rfl)) (pss_one (ps_for PassesOwn.never rfl (pi_range1 rfl N.range (pa_cons pe_int pa_nil)) (pg_name (i := 4) scLaw.nd rfl (Or.inr rfl)) (pss_cons (ps_set (i := 5) scLaw.nd rfl (Or.inl rfl) (pe_call CD.ok hr rfl CD.nm CD.kp CD.bd .nil pass0 (pa_cons (pv 4) (pa_cons (pv 3) pa_nil))))
      (pss_cons (ps_if (PW.pt (pw_or (pt_not (pt_val (pe_callB call_isinstX (by rfl) N.isinstance PyProof.Rows.Boot.«isinstance» (pa_cons (pv 5) (pa_cons (pe_glob (v := .ref U) (by rfl) mU rfl) pa_nil))))) (pw_or1 (pt_not (pt_val (pe_callB call_isinstX (by rfl) N.isinstance PyProof.Rows.Boot.«isinstance» (pa_cons (pv 5) (pa_cons (pe_bltn (v := .ty "ValueError") (by rfl) N.valueError PyProof.Rows.Boot.«ValueError» rfl) pa_nil)))))))) (pss_one (ps_ret pe_bl)) pss_nil)
      (pss_one (ps_if (PW.pt (pw_or (pt_cmpR (op_neB hr.units) (pe_call CK.ok hr rfl CK.nm CK.kp CK.bd .nil pass0 (pa_cons (pv 5) pa_nil)) (pe_comp1 (y := "_law_way") (i := 4) rfl (pi_range1 rfl N.range (pa_cons pe_int pa_nil)) rfl rfl (by decide) (by decide) rfl (by decide) rfl (.inr (.inl rfl)) (by show (some NameKind.cell) ≠ some NameKind.local; decide) (.inl rfl) rfl (fun C fp s H => pts_nil) (fun C fp s H => pe_cmpR op_eq (pv 1) (pv 0) (nomark _))) (nomark _)) (pw_or1 (pt_cmpR (op_ne.or (op_neDat hr.units)) (pe_call CF.ok hr rfl CF.nm CF.kp CF.bd .nil pass0 (pa_cons (pv 5) (pa_cons (pv 3) pa_nil))) (pv 3) (nomark _))))) (pss_one (ps_ret pe_bl)) pss_nil))))))))))
      (pss_one (ps_ret pe_bl))), ?_⟩
    refine ⟨_, rfl, a, _, rfl, .inl hS, _, _, rfl, _, _, rfl, _, rfl, ?b1, ?b2, ?_⟩
    case b1 => split <;> omega
    case b2 => split <;> (try split) <;> (try rw [List.length_map]) <;> omega
    refine for_range (lo := 0) (fun i σ H2 => ∃ (v1 v2 v3 v4 v5 : Option V), σ = [some (.ref a), v1, v2, v3, v4, v5] ∧ Grow H H2) ⟨none, none, none, none, none, rfl, Grow.refl⟩ ?_ ?_
    · rintro i σ H2 hi ⟨v1, v2, v3, v4, v5, rfl, g⟩
      refine ⟨_, rfl, _, rfl, a, ns, 0 + (i : Int), rfl, g.seq hS, by omega, fun c => ?_⟩
      refine ⟨c, 0, rfl, by omega, by omega, fun num hn hn' => ?_⟩
      refine ⟨_, rfl, _, rfl, by show 1 ≤ sizeLine; decide, fun p1 np1 => ?_⟩
      refine ⟨by show 5 ≤ sizeLine; decide, fun l nl => ?_⟩
      have g1 : Grow H2 (upd H2 p1 (.lst [.int num])) := Grow.new np1
      have e1 := (Grow.new (o := .lst [.int num, .non, .str (Str.ofString "key"), .ref p1, .bl true]) nl) _ _ (@upd_same H2 p1 (.lst [.int num]))
      have g2 := g1.trans (Grow.new (o := .lst [.int num, .non, .str (Str.ofString "key"), .ref p1, .bl true]) nl)
      have el := @upd_same (upd H2 p1 (.lst [.int num])) l (.lst [.int num, .non, .str (Str.ofString "key"), .ref p1, .bl true])
      generalize upd (upd H2 p1 (.lst [.int num])) l (.lst [.int num, .non, .str (Str.ofString "key"), .ref p1, .bl true]) = H3 at e1 g2 el ⊢
      refine ⟨l, rfl, ⟨_, SqL.of el⟩, for_list (K := K) (a := l) (xs := [.int num, .non, .str (Str.ofString "key"), .ref p1, .bl true]) (fun j σ H4 => ∃ (v3 v4 v5 : Option V), σ = [some (.ref a), some (.int (0 + (i : Int))), some (.int num), v3, v4, v5] ∧ Grow H3 H4)
        ⟨_, _, _, rfl, Grow.refl⟩ (fun j σ H4 _ hh => ?_) ?_ ?_⟩
      · obtain ⟨_, _, _, _, g4⟩ := hh
        exact SqL.of (g4 _ _ el)
      · rintro j y σ H4 hj ⟨v3, v4, v5, rfl, g4⟩
        have ty : ThingOk H3 y := by
          have hy := List.mem_of_getElem? hj
          simp only [List.mem_cons, List.not_mem_nil, or_false] at hy
          rcases hy with rfl | rfl | rfl | rfl | rfl
          · exact .inl (.inr (.inl ⟨_, rfl⟩))
          · exact .inl (.inl rfl)
          · exact .inl (.inr (.inr (.inl ⟨_, rfl⟩)))
          · exact .inr ⟨p1, num, rfl, e1⟩
          · exact .inl (.inr (.inr (.inr ⟨_, rfl⟩)))
        refine ⟨13, rfl, by decide, by decide, ?_⟩
        refine for_range (lo := 0) (n := 13) (fun m σ H5 => ∃ (v4 v5 : Option V), σ = [some (.ref a), some (.int (0 + (i : Int))), some (.int num), some y, v4, v5] ∧ Grow H3 H5) ⟨_, _, rfl, g4⟩ ?_ ?_
        · rintro m σ H5 hm ⟨w4, w5, rfl, g5⟩
          have hm13 : m < 13 := hm
          refine ⟨_, rfl, _, rfl, m, y, by rw [Int.zero_add]; rfl, hm13, fun e C H6 g6 hC xa => ?_⟩
          obtain ⟨u1, u2⟩ := KK.up m C hC
          refine ⟨_, rfl, e, C, U, _, _, _, rfl, xa, KK.cl m C hC, .inl ⟨_, rfl, u1⟩, _, rfl, iteF ?_⟩
          refine ⟨_, rfl, e, C, U, _, _, _, rfl, xa, KK.cl m C hC, .inr ⟨_, rfl, u2⟩, _, rfl, iteF ?_⟩
          refine ⟨_, rfl, e, C, _, m, rfl, hC, xa, fun lk H7 g7 hlk => ?_⟩
          refine tcomp_way (i := m) rfl fun D H8 nD g8 hD => ?_
          refine ⟨lk, D, LB m, rfl, rfl, by rw [← lt_lb]; exact g8 _ _ hlk, by rw [← lt_lb]; exact hD, lb_ok m hm13, _, rfl, iteF ?_⟩
          refine ⟨_, rfl, _, rfl, e, C, m, y, rfl, hC, xgrow g8 (xgrow g7 xa), _, rfl, ThingOk.ne (ThingOk.grow (((g5.trans g6).trans g7).trans g8) ty) ⟨_, rfl, iteF ?_⟩⟩
          exact ⟨_, _, rfl, ((g5.trans g6).trans g7).trans g8⟩
        · rintro σ H5 ⟨w4, w5, rfl, g5⟩
          exact ⟨_, _, _, rfl, g5⟩
      · rintro σ H4 ⟨v3, v4, v5, rfl, g4⟩
        exact ⟨_, _, _, _, _, rfl, (g.trans g2).trans g4⟩
    · rintro σ H2 ⟨v1, v2, v3, v4, v5, rfl, g⟩
      exact hq H2
end
end Mine

set_option Elab.async false
set_option linter.all false
set_option maxRecDepth 100000
set_option maxHeartbeats 4000000
namespace Mine
open PySem L2
/-- the answers of isinstance over the thirteen -/
def kitsIn (K : PySem.W.Frag) (U : Addr) (cs : List Addr) : Bool := (List.range 13).all fun i => match cs[i]? with
  | some c => (List.range 13).all (fun j => match cs[j]? with
      | some d => PySem.W.kitOne K (.ref c) (.ref d) == some (decide (i = j))
      | none => false) && (PySem.W.kitOne K (.ref c) (.ref U) == some true) && (PySem.W.kitOne K (.ref c) (.type "ValueError") == some true)
  | none => false
theorem kits_at {K : PySem.W.Frag} {U : Addr} {cs : List Addr} (h : kitsIn K U cs = true) (hl : cs.length = 13) {i : Nat} {c : Addr} (e : cs[i]? = some c) :
    (∀ (j : Nat) (d : Addr), cs[j]? = some d → PySem.W.kitOne K (.ref c) (.ref d) = some (decide (i = j))) ∧ PySem.W.kitOne K (.ref c) (.ref U) = some true ∧ PySem.W.kitOne K (.ref c) (.type "ValueError") = some true := by
  have hi : i < 13 := by have := (List.getElem?_eq_some_iff.mp e).1; omega
  have q := List.all_eq_true.mp h i (List.mem_range.mpr hi)
  rw [e] at q
  simp only [Bool.and_eq_true, beq_iff_eq] at q
  refine ⟨fun j d ej => ?_, q.1.2, q.2⟩
  have hj : j < 13 := by have := (List.getElem?_eq_some_iff.mp ej).1; omega
  have q2 := List.all_eq_true.mp q.1.1 j (List.mem_range.mpr hj)
  rw [ej] at q2
  exact beq_iff_eq.mp q2
theorem all_mk {l : PySem.W.OpenLaw} {w : World} {K : PySem.W.Frag} {h : Heap} {mg : Str → Option Value} {fa U f1 f2 f3 f4 f5 f6 c0 c1 c2 c3 c4 c5 c6 c7 c8 c9 c10 c11 c12 g0 g1 g2 g3 g4 g5 g6 g7 g8 : Addr} (X : K.In h) (G : h.Ns mainGlobals mg) (hfa : mg "law" = some (.ref fa))
    {od1 an1 : Option Addr} {sl1 : Array (Option Value)} {oc1 kV1 dc1 pm1 cd1 ct1 : Value} {od2 an2 : Option Addr} {sl2 : Array (Option Value)} {oc2 kV2 dc2 pm2 cd2 ct2 : Value} {od3 an3 : Option Addr} {sl3 : Array (Option Value)} {oc3 kV3 dc3 pm3 cd3 ct3 : Value} {od4 an4 : Option Addr} {sl4 : Array (Option Value)} {oc4 kV4 dc4 pm4 cd4 ct4 : Value} {od5 an5 : Option Addr} {sl5 : Array (Option Value)} {oc5 kV5 dc5 pm5 cd5 ct5 : Value} {od6 an6 : Option Addr} {sl6 : Array (Option Value)} {oc6 kV6 dc6 pm6 cd6 ct6 : Value} {od110 an110 : Option Addr} {sl110 : Array (Option Value)} {oc110 kV110 dc110 pm110 cd110 ct110 : Value} {od111 an111 : Option Addr} {sl111 : Array (Option Value)} {oc111 kV111 dc111 pm111 cd111 ct111 : Value} {od112 an112 : Option Addr} {sl112 : Array (Option Value)} {oc112 kV112 dc112 pm112 cd112 ct112 : Value} {od113 an113 : Option Addr} {sl113 : Array (Option Value)} {oc113 kV113 dc113 pm113 cd113 ct113 : Value} {od114 an114 : Option Addr} {sl114 : Array (Option Value)} {oc114 kV114 dc114 pm114 cd114 ct114 : Value} {od115 an115 : Option Addr} {sl115 : Array (Option Value)} {oc115 kV115 dc115 pm115 cd115 ct115 : Value} {od116 an116 : Option Addr} {sl116 : Array (Option Value)} {oc116 kV116 dc116 pm116 cd116 ct116 : Value} {od117 an117 : Option Addr} {sl117 : Array (Option Value)} {oc117 kV117 dc117 pm117 cd117 ct117 : Value} {od118 an118 : Option Addr} {sl118 : Array (Option Value)} {oc118 kV118 dc118 pm118 cd118 ct118 : Value}
    (a1 : PySem.W.nsIn K mainGlobals "_law_cell" = some (some (.ref f1))) (l1 : K.lookup f1 = some ⟨oc1, od1, .func (PySem.W.fnOf "_law_cell" "_law_cell" (defArgs sCell) (defBody sCell) (defScope sCell) .none kV1 dc1 pm1 an1 cd1 ct1), sl1⟩) (d1 : PySem.W.codeIn K cd1 "_law_cell" = true) (k1 : PySem.W.keepIn K (.ref f1) = true)
    (a2 : PySem.W.nsIn K mainGlobals "_law_mixed" = some (some (.ref f2))) (l2 : K.lookup f2 = some ⟨oc2, od2, .func (PySem.W.fnOf "_law_mixed" "_law_mixed" (defArgs sMixed) (defBody sMixed) (defScope sMixed) .none kV2 dc2 pm2 an2 cd2 ct2), sl2⟩) (d2 : PySem.W.codeIn K cd2 "_law_mixed" = true) (k2 : PySem.W.keepIn K (.ref f2) = true)
    (a3 : PySem.W.nsIn K mainGlobals "_law_kinds" = some (some (.ref f3))) (l3 : K.lookup f3 = some ⟨oc3, od3, .func (PySem.W.fnOf "_law_kinds" "_law_kinds" (defArgs sKinds) (defBody sKinds) (defScope sKinds) .none kV3 dc3 pm3 an3 cd3 ct3), sl3⟩) (d3 : PySem.W.codeIn K cd3 "_law_kinds" = true) (k3 : PySem.W.keepIn K (.ref f3) = true)
    (a4 : PySem.W.nsIn K mainGlobals "_law_made" = some (some (.ref f4))) (l4 : K.lookup f4 = some ⟨oc4, od4, .func (PySem.W.fnOf "_law_made" "_law_made" (defArgs sMade) (defBody sMade) (defScope sMade) .none kV4 dc4 pm4 an4 cd4 ct4), sl4⟩) (d4 : PySem.W.codeIn K cd4 "_law_made" = true) (k4 : PySem.W.keepIn K (.ref f4) = true)
    (a5 : PySem.W.nsIn K mainGlobals "_law_field" = some (some (.ref f5))) (l5 : K.lookup f5 = some ⟨oc5, od5, .func (PySem.W.fnOf "_law_field" "_law_field" (defArgs sField) (defBody sField) (defScope sField) .none kV5 dc5 pm5 an5 cd5 ct5), sl5⟩) (d5 : PySem.W.codeIn K cd5 "_law_field" = true) (k5 : PySem.W.keepIn K (.ref f5) = true)
    (a6 : PySem.W.nsIn K mainGlobals "law" = some (some (.ref f6))) (l6 : K.lookup f6 = some ⟨oc6, od6, .func (PySem.W.fnOf "law" "law" (defArgs sLaw) (defBody sLaw) (defScope sLaw) .none kV6 dc6 pm6 an6 cd6 ct6), sl6⟩) (d6 : PySem.W.codeIn K cd6 "law" = true) (k6 : PySem.W.keepIn K (.ref f6) = true)
    (cm0 : PySem.W.nsIn K mainGlobals "NoKey" = some (some (.ref c0))) (cx0 : xIn K c0 U = true) (cga0 : PySem.W.findIn K (.ref c0) "__getattribute__" = some (some (.builtin "BaseException.__getattribute__"))) (cgn0 : PySem.W.findIn K (.ref c0) "__getattr__" = some none) (ccl0 : PySem.W.findIn K (.ref c0) "__class__" = some (some (.builtin "object.__class__"))) (csa0 : PySem.W.findIn K (.ref c0) "__setattr__" = some (some (.builtin "object.__setattr__"))) (ckp0 : PySem.W.keepIn K (.ref c0) = true) (ia0 : PySem.W.findIn K (.ref c0) "__init__" = some (some (.ref g0))) (ii0 : PySem.W.isFn K (.ref g0) = true) (il0 : K.lookup g0 = some ⟨oc110, od110, .func (PySem.W.fnOf "__init__" "NoKey.__init__" (defArgs sInit0) (defBody sInit0) (defScope sInit0) .none kV110 dc110 pm110 an110 cd110 ct110), sl110⟩) (id0 : PySem.W.codeIn K cd110 "NoKey.__init__" = true) (ik0 : PySem.W.keepIn K (.ref g0) = true) (nf0 : PySem.W.findIn K (.ref c0) "key" = some none)
    (cm1 : PySem.W.nsIn K mainGlobals "NoDay" = some (some (.ref c1))) (cx1 : xIn K c1 U = true) (cga1 : PySem.W.findIn K (.ref c1) "__getattribute__" = some (some (.builtin "BaseException.__getattribute__"))) (cgn1 : PySem.W.findIn K (.ref c1) "__getattr__" = some none) (ccl1 : PySem.W.findIn K (.ref c1) "__class__" = some (some (.builtin "object.__class__"))) (csa1 : PySem.W.findIn K (.ref c1) "__setattr__" = some (some (.builtin "object.__setattr__"))) (ckp1 : PySem.W.keepIn K (.ref c1) = true) (ia1 : PySem.W.findIn K (.ref c1) "__init__" = some (some (.ref g1))) (ii1 : PySem.W.isFn K (.ref g1) = true) (il1 : K.lookup g1 = some ⟨oc111, od111, .func (PySem.W.fnOf "__init__" "NoDay.__init__" (defArgs sInit1) (defBody sInit1) (defScope sInit1) .none kV111 dc111 pm111 an111 cd111 ct111), sl111⟩) (id1 : PySem.W.codeIn K cd111 "NoDay.__init__" = true) (ik1 : PySem.W.keepIn K (.ref g1) = true) (nf1 : PySem.W.findIn K (.ref c1) "day" = some none)
    (cm2 : PySem.W.nsIn K mainGlobals "NoValue" = some (some (.ref c2))) (cx2 : xIn K c2 U = true) (cga2 : PySem.W.findIn K (.ref c2) "__getattribute__" = some (some (.builtin "BaseException.__getattribute__"))) (cgn2 : PySem.W.findIn K (.ref c2) "__getattr__" = some none) (ccl2 : PySem.W.findIn K (.ref c2) "__class__" = some (some (.builtin "object.__class__"))) (csa2 : PySem.W.findIn K (.ref c2) "__setattr__" = some (some (.builtin "object.__setattr__"))) (ckp2 : PySem.W.keepIn K (.ref c2) = true) (ia2 : PySem.W.findIn K (.ref c2) "__init__" = some (some (.ref g2))) (ii2 : PySem.W.isFn K (.ref g2) = true) (il2 : K.lookup g2 = some ⟨oc112, od112, .func (PySem.W.fnOf "__init__" "NoValue.__init__" (defArgs sInit2) (defBody sInit2) (defScope sInit2) .none kV112 dc112 pm112 an112 cd112 ct112), sl112⟩) (id2 : PySem.W.codeIn K cd112 "NoValue.__init__" = true) (ik2 : PySem.W.keepIn K (.ref g2) = true) (nf2 : PySem.W.findIn K (.ref c2) "thing" = some none)
    (cm3 : PySem.W.nsIn K mainGlobals "NoFinding" = some (some (.ref c3))) (cx3 : xIn K c3 U = true) (cga3 : PySem.W.findIn K (.ref c3) "__getattribute__" = some (some (.builtin "BaseException.__getattribute__"))) (cgn3 : PySem.W.findIn K (.ref c3) "__getattr__" = some none) (ccl3 : PySem.W.findIn K (.ref c3) "__class__" = some (some (.builtin "object.__class__"))) (csa3 : PySem.W.findIn K (.ref c3) "__setattr__" = some (some (.builtin "object.__setattr__"))) (ckp3 : PySem.W.keepIn K (.ref c3) = true) (ia3 : PySem.W.findIn K (.ref c3) "__init__" = some (some (.ref g3))) (ii3 : PySem.W.isFn K (.ref g3) = true) (il3 : K.lookup g3 = some ⟨oc113, od113, .func (PySem.W.fnOf "__init__" "NoFinding.__init__" (defArgs sInit3) (defBody sInit3) (defScope sInit3) .none kV113 dc113 pm113 an113 cd113 ct113), sl113⟩) (id3 : PySem.W.codeIn K cd113 "NoFinding.__init__" = true) (ik3 : PySem.W.keepIn K (.ref g3) = true) (nf3 : PySem.W.findIn K (.ref c3) "number" = some none)
    (cm4 : PySem.W.nsIn K mainGlobals "Gone" = some (some (.ref c4))) (cx4 : xIn K c4 U = true) (cga4 : PySem.W.findIn K (.ref c4) "__getattribute__" = some (some (.builtin "BaseException.__getattribute__"))) (cgn4 : PySem.W.findIn K (.ref c4) "__getattr__" = some none) (ccl4 : PySem.W.findIn K (.ref c4) "__class__" = some (some (.builtin "object.__class__"))) (csa4 : PySem.W.findIn K (.ref c4) "__setattr__" = some (some (.builtin "object.__setattr__"))) (ckp4 : PySem.W.keepIn K (.ref c4) = true) (ia4 : PySem.W.findIn K (.ref c4) "__init__" = some (some (.ref g4))) (ii4 : PySem.W.isFn K (.ref g4) = true) (il4 : K.lookup g4 = some ⟨oc114, od114, .func (PySem.W.fnOf "__init__" "Gone.__init__" (defArgs sInit4) (defBody sInit4) (defScope sInit4) .none kV114 dc114 pm114 an114 cd114 ct114), sl114⟩) (id4 : PySem.W.codeIn K cd114 "Gone.__init__" = true) (ik4 : PySem.W.keepIn K (.ref g4) = true) (nf4 : PySem.W.findIn K (.ref c4) "number" = some none)
    (cm5 : PySem.W.nsIn K mainGlobals "NoTurn" = some (some (.ref c5))) (cx5 : xIn K c5 U = true) (cga5 : PySem.W.findIn K (.ref c5) "__getattribute__" = some (some (.builtin "BaseException.__getattribute__"))) (cgn5 : PySem.W.findIn K (.ref c5) "__getattr__" = some none) (ccl5 : PySem.W.findIn K (.ref c5) "__class__" = some (some (.builtin "object.__class__"))) (csa5 : PySem.W.findIn K (.ref c5) "__setattr__" = some (some (.builtin "object.__setattr__"))) (ckp5 : PySem.W.keepIn K (.ref c5) = true) (ia5 : PySem.W.findIn K (.ref c5) "__init__" = some (some (.ref g5))) (ii5 : PySem.W.isFn K (.ref g5) = true) (il5 : K.lookup g5 = some ⟨oc115, od115, .func (PySem.W.fnOf "__init__" "NoTurn.__init__" (defArgs sInit5) (defBody sInit5) (defScope sInit5) .none kV115 dc115 pm115 an115 cd115 ct115), sl115⟩) (id5 : PySem.W.codeIn K cd115 "NoTurn.__init__" = true) (ik5 : PySem.W.keepIn K (.ref g5) = true) (nf5 : PySem.W.findIn K (.ref c5) "turn" = some none)
    (cm6 : PySem.W.nsIn K mainGlobals "BadQuestion" = some (some (.ref c6))) (cx6 : xIn K c6 U = true) (cga6 : PySem.W.findIn K (.ref c6) "__getattribute__" = some (some (.builtin "BaseException.__getattribute__"))) (cgn6 : PySem.W.findIn K (.ref c6) "__getattr__" = some none) (ccl6 : PySem.W.findIn K (.ref c6) "__class__" = some (some (.builtin "object.__class__"))) (csa6 : PySem.W.findIn K (.ref c6) "__setattr__" = some (some (.builtin "object.__setattr__"))) (ckp6 : PySem.W.keepIn K (.ref c6) = true) (ia6 : PySem.W.findIn K (.ref c6) "__init__" = some (some (.ref g6))) (ii6 : PySem.W.isFn K (.ref g6) = true) (il6 : K.lookup g6 = some ⟨oc116, od116, .func (PySem.W.fnOf "__init__" "BadQuestion.__init__" (defArgs sInit6) (defBody sInit6) (defScope sInit6) .none kV116 dc116 pm116 an116 cd116 ct116), sl116⟩) (id6 : PySem.W.codeIn K cd116 "BadQuestion.__init__" = true) (ik6 : PySem.W.keepIn K (.ref g6) = true) (nf6 : PySem.W.findIn K (.ref c6) "place" = some none)
    (cm7 : PySem.W.nsIn K mainGlobals "NoName" = some (some (.ref c7))) (cx7 : xIn K c7 U = true) (cga7 : PySem.W.findIn K (.ref c7) "__getattribute__" = some (some (.builtin "BaseException.__getattribute__"))) (cgn7 : PySem.W.findIn K (.ref c7) "__getattr__" = some none) (ccl7 : PySem.W.findIn K (.ref c7) "__class__" = some (some (.builtin "object.__class__"))) (csa7 : PySem.W.findIn K (.ref c7) "__setattr__" = some (some (.builtin "object.__setattr__"))) (ckp7 : PySem.W.keepIn K (.ref c7) = true) (ia7 : PySem.W.findIn K (.ref c7) "__init__" = some (some (.ref g7))) (ii7 : PySem.W.isFn K (.ref g7) = true) (il7 : K.lookup g7 = some ⟨oc117, od117, .func (PySem.W.fnOf "__init__" "NoName.__init__" (defArgs sInit7) (defBody sInit7) (defScope sInit7) .none kV117 dc117 pm117 an117 cd117 ct117), sl117⟩) (id7 : PySem.W.codeIn K cd117 "NoName.__init__" = true) (ik7 : PySem.W.keepIn K (.ref g7) = true) (nf7 : PySem.W.findIn K (.ref c7) "name" = some none)
    (cm8 : PySem.W.nsIn K mainGlobals "NoGiven" = some (some (.ref c8))) (cx8 : xIn K c8 U = true) (cga8 : PySem.W.findIn K (.ref c8) "__getattribute__" = some (some (.builtin "BaseException.__getattribute__"))) (cgn8 : PySem.W.findIn K (.ref c8) "__getattr__" = some none) (ccl8 : PySem.W.findIn K (.ref c8) "__class__" = some (some (.builtin "object.__class__"))) (csa8 : PySem.W.findIn K (.ref c8) "__setattr__" = some (some (.builtin "object.__setattr__"))) (ckp8 : PySem.W.keepIn K (.ref c8) = true) (ia8 : PySem.W.findIn K (.ref c8) "__init__" = some (some (.ref g8))) (ii8 : PySem.W.isFn K (.ref g8) = true) (il8 : K.lookup g8 = some ⟨oc118, od118, .func (PySem.W.fnOf "__init__" "NoGiven.__init__" (defArgs sInit8) (defBody sInit8) (defScope sInit8) .none kV118 dc118 pm118 an118 cd118 ct118), sl118⟩) (id8 : PySem.W.codeIn K cd118 "NoGiven.__init__" = true) (ik8 : PySem.W.keepIn K (.ref g8) = true) (nf8 : PySem.W.findIn K (.ref c8) "number" = some none)
    (cm9 : PySem.W.nsIn K mainGlobals "NoKeys" = some (some (.ref c9))) (cx9 : xIn K c9 U = true) (cga9 : PySem.W.findIn K (.ref c9) "__getattribute__" = some (some (.builtin "BaseException.__getattribute__"))) (cgn9 : PySem.W.findIn K (.ref c9) "__getattr__" = some none) (ccl9 : PySem.W.findIn K (.ref c9) "__class__" = some (some (.builtin "object.__class__"))) (csa9 : PySem.W.findIn K (.ref c9) "__setattr__" = some (some (.builtin "object.__setattr__"))) (ckp9 : PySem.W.keepIn K (.ref c9) = true) (ia9 : PySem.W.findIn K (.ref c9) "__init__" = some (some (.builtin "ValueError.__init__")))
    (cm10 : PySem.W.nsIn K mainGlobals "Full" = some (some (.ref c10))) (cx10 : xIn K c10 U = true) (cga10 : PySem.W.findIn K (.ref c10) "__getattribute__" = some (some (.builtin "BaseException.__getattribute__"))) (cgn10 : PySem.W.findIn K (.ref c10) "__getattr__" = some none) (ccl10 : PySem.W.findIn K (.ref c10) "__class__" = some (some (.builtin "object.__class__"))) (csa10 : PySem.W.findIn K (.ref c10) "__setattr__" = some (some (.builtin "object.__setattr__"))) (ckp10 : PySem.W.keepIn K (.ref c10) = true) (ia10 : PySem.W.findIn K (.ref c10) "__init__" = some (some (.builtin "ValueError.__init__")))
    (cm11 : PySem.W.nsIn K mainGlobals "NoBox" = some (some (.ref c11))) (cx11 : xIn K c11 U = true) (cga11 : PySem.W.findIn K (.ref c11) "__getattribute__" = some (some (.builtin "BaseException.__getattribute__"))) (cgn11 : PySem.W.findIn K (.ref c11) "__getattr__" = some none) (ccl11 : PySem.W.findIn K (.ref c11) "__class__" = some (some (.builtin "object.__class__"))) (csa11 : PySem.W.findIn K (.ref c11) "__setattr__" = some (some (.builtin "object.__setattr__"))) (ckp11 : PySem.W.keepIn K (.ref c11) = true) (ia11 : PySem.W.findIn K (.ref c11) "__init__" = some (some (.builtin "ValueError.__init__")))
    (cm12 : PySem.W.nsIn K mainGlobals "NoLine" = some (some (.ref c12))) (cx12 : xIn K c12 U = true) (cga12 : PySem.W.findIn K (.ref c12) "__getattribute__" = some (some (.builtin "BaseException.__getattribute__"))) (cgn12 : PySem.W.findIn K (.ref c12) "__getattr__" = some none) (ccl12 : PySem.W.findIn K (.ref c12) "__class__" = some (some (.builtin "object.__class__"))) (csa12 : PySem.W.findIn K (.ref c12) "__setattr__" = some (some (.builtin "object.__setattr__"))) (ckp12 : PySem.W.keepIn K (.ref c12) = true) (ia12 : PySem.W.findIn K (.ref c12) "__init__" = some (some (.builtin "ValueError.__init__")))
    (aU : PySem.W.nsIn K mainGlobals "UnsayError" = some (some (.ref U))) (sp : PySem.W.specialIn K (.builtin "object.__class__") "__get__" = some (some (.builtin "getset_descriptor.__get__"))) (tk : PySem.W.takesIn K (.builtin "object.__class__") = some true) (kk : kitsIn K U [c0, c1, c2, c3, c4, c5, c6, c7, c8, c9, c10, c11, c12] = true) (z1 : PySem.W.nsIn K mainGlobals "isinstance" = some none) (z2 : PySem.W.nsIn K mainGlobals "len" = some none) (z3 : PySem.W.nsIn K mainGlobals "range" = some none) (z4 : PySem.W.nsIn K mainGlobals "max" = some none) (z5 : PySem.W.nsIn K mainGlobals "min" = some none) (z6 : PySem.W.nsIn K mainGlobals "ValueError" = some none) :
    ∃ fd : FuncData, (∀ (s : Shared) (v : Value), BindsTo s fd ⟨[v], []⟩ [("_law_script", v)]) ∧ ∀ base : Heap, K.In base → base.Ns mainGlobals mg → FnOk l.prog w K mg base CX0 4 fa fd ["_law_script"] (spLaw K) := by
  have e := hfa.symm.trans (PySem.W.mg_of X G a6)
  cases e
  have N : Fre mg := ⟨PySem.W.mg_none_of X G z1, PySem.W.mg_none_of X G z2, PySem.W.mg_none_of X G z3, PySem.W.mg_none_of X G z4, PySem.W.mg_none_of X G z5, PySem.W.mg_none_of X G z6⟩
  have T0 : XCls K c0 U := ⟨cx0, cga0, cgn0, ccl0, sp, tk, csa0, ckp0⟩
  have T1 : XCls K c1 U := ⟨cx1, cga1, cgn1, ccl1, sp, tk, csa1, ckp1⟩
  have T2 : XCls K c2 U := ⟨cx2, cga2, cgn2, ccl2, sp, tk, csa2, ckp2⟩
  have T3 : XCls K c3 U := ⟨cx3, cga3, cgn3, ccl3, sp, tk, csa3, ckp3⟩
  have T4 : XCls K c4 U := ⟨cx4, cga4, cgn4, ccl4, sp, tk, csa4, ckp4⟩
  have T5 : XCls K c5 U := ⟨cx5, cga5, cgn5, ccl5, sp, tk, csa5, ckp5⟩
  have T6 : XCls K c6 U := ⟨cx6, cga6, cgn6, ccl6, sp, tk, csa6, ckp6⟩
  have T7 : XCls K c7 U := ⟨cx7, cga7, cgn7, ccl7, sp, tk, csa7, ckp7⟩
  have T8 : XCls K c8 U := ⟨cx8, cga8, cgn8, ccl8, sp, tk, csa8, ckp8⟩
  have T9 : XCls K c9 U := ⟨cx9, cga9, cgn9, ccl9, sp, tk, csa9, ckp9⟩
  have T10 : XCls K c10 U := ⟨cx10, cga10, cgn10, ccl10, sp, tk, csa10, ckp10⟩
  have T11 : XCls K c11 U := ⟨cx11, cga11, cgn11, ccl11, sp, tk, csa11, ckp11⟩
  have T12 : XCls K c12 U := ⟨cx12, cga12, cgn12, ccl12, sp, tk, csa12, ckp12⟩
  have KK : Kits K U [c0, c1, c2, c3, c4, c5, c6, c7, c8, c9, c10, c11, c12] := by
    refine ⟨rfl, fun i C e => ?_, fun i j C D e1 e2 => (kits_at kk rfl e1).1 j D e2, fun i C e => (kits_at kk rfl e).2, fun i C f e ef => ?_⟩
    · have hi : i < 13 := (List.getElem?_eq_some_iff.mp e).1
      rcases (show i = 0 ∨ i = 1 ∨ i = 2 ∨ i = 3 ∨ i = 4 ∨ i = 5 ∨ i = 6 ∨ i = 7 ∨ i = 8 ∨ i = 9 ∨ i = 10 ∨ i = 11 ∨ i = 12 by omega) with rfl | rfl | rfl | rfl | rfl | rfl | rfl | rfl | rfl | rfl | rfl | rfl | rfl
      · cases e; exact T0
      · cases e; exact T1
      · cases e; exact T2
      · cases e; exact T3
      · cases e; exact T4
      · cases e; exact T5
      · cases e; exact T6
      · cases e; exact T7
      · cases e; exact T8
      · cases e; exact T9
      · cases e; exact T10
      · cases e; exact T11
      · cases e; exact T12
    · have hi : i < 13 := (List.getElem?_eq_some_iff.mp e).1
      rcases (show i = 0 ∨ i = 1 ∨ i = 2 ∨ i = 3 ∨ i = 4 ∨ i = 5 ∨ i = 6 ∨ i = 7 ∨ i = 8 ∨ i = 9 ∨ i = 10 ∨ i = 11 ∨ i = 12 by omega) with rfl | rfl | rfl | rfl | rfl | rfl | rfl | rfl | rfl | rfl | rfl | rfl | rfl
      · cases e; cases ef; exact nf0
      · cases e; cases ef; exact nf1
      · cases e; cases ef; exact nf2
      · cases e; cases ef; exact nf3
      · cases e; cases ef; exact nf4
      · cases e; cases ef; exact nf5
      · cases e; cases ef; exact nf6
      · cases e; cases ef; exact nf7
      · cases e; cases ef; exact nf8
      · cases ef
      · cases ef
      · cases ef
      · cases ef
  have F1 := fun_mk (st := sCell) l1 d1 k1
  have b1 := F1.binds (ps := ["_law_script", "_law_k"]) fun _ _ _ _ _ _ us hl => match us, hl with | [_, _], _ => rfl
  have m1 := PySem.W.mg_of X G a1
  have F2 := fun_mk (st := sMixed) l2 d2 k2
  have b2 := F2.binds (ps := ["_law_cell_here", "_law_k"]) fun _ _ _ _ _ _ us hl => match us, hl with | [_, _], _ => rfl
  have m2 := PySem.W.mg_of X G a2
  have F3 := fun_mk (st := sKinds) l3 d3 k3
  have b3 := F3.binds (ps := ["_law_error"]) fun _ _ _ _ _ _ us hl => match us, hl with | [_], _ => rfl
  have m3 := PySem.W.mg_of X G a3
  have F4 := fun_mk (st := sMade) l4 d4 k4
  have b4 := F4.binds (ps := ["_law_way", "_law_thing"]) fun _ _ _ _ _ _ us hl => match us, hl with | [_, _], _ => rfl
  have m4 := PySem.W.mg_of X G a4
  have F5 := fun_mk (st := sField) l5 d5 k5
  have b5 := F5.binds (ps := ["_law_error", "_law_thing"]) fun _ _ _ _ _ _ us hl => match us, hl with | [_, _], _ => rfl
  have m5 := PySem.W.mg_of X G a5
  have F6 := fun_mk (st := sLaw) l6 d6 k6
  have b6 := F6.binds (ps := ["_law_script"]) fun _ _ _ _ _ _ us hl => match us, hl with | [_], _ => rfl
  have m6 := PySem.W.mg_of X G a6
  have n0 := PySem.W.mg_of X G cm0
  have I0 := fun_mk (st := sInit0) il0 id0 ik0
  have q0 := I0.binds (ps := ["self", "key"]) fun _ _ _ _ _ _ us hl => match us, hl with | [_, _], _ => rfl
  have n1 := PySem.W.mg_of X G cm1
  have I1 := fun_mk (st := sInit1) il1 id1 ik1
  have q1 := I1.binds (ps := ["self", "day"]) fun _ _ _ _ _ _ us hl => match us, hl with | [_, _], _ => rfl
  have n2 := PySem.W.mg_of X G cm2
  have I2 := fun_mk (st := sInit2) il2 id2 ik2
  have q2 := I2.binds (ps := ["self", "thing"]) fun _ _ _ _ _ _ us hl => match us, hl with | [_, _], _ => rfl
  have n3 := PySem.W.mg_of X G cm3
  have I3 := fun_mk (st := sInit3) il3 id3 ik3
  have q3 := I3.binds (ps := ["self", "number"]) fun _ _ _ _ _ _ us hl => match us, hl with | [_, _], _ => rfl
  have n4 := PySem.W.mg_of X G cm4
  have I4 := fun_mk (st := sInit4) il4 id4 ik4
  have q4 := I4.binds (ps := ["self", "number"]) fun _ _ _ _ _ _ us hl => match us, hl with | [_, _], _ => rfl
  have n5 := PySem.W.mg_of X G cm5
  have I5 := fun_mk (st := sInit5) il5 id5 ik5
  have q5 := I5.binds (ps := ["self", "turn"]) fun _ _ _ _ _ _ us hl => match us, hl with | [_, _], _ => rfl
  have n6 := PySem.W.mg_of X G cm6
  have I6 := fun_mk (st := sInit6) il6 id6 ik6
  have q6 := I6.binds (ps := ["self", "place"]) fun _ _ _ _ _ _ us hl => match us, hl with | [_, _], _ => rfl
  have n7 := PySem.W.mg_of X G cm7
  have I7 := fun_mk (st := sInit7) il7 id7 ik7
  have q7 := I7.binds (ps := ["self", "name"]) fun _ _ _ _ _ _ us hl => match us, hl with | [_, _], _ => rfl
  have n8 := PySem.W.mg_of X G cm8
  have I8 := fun_mk (st := sInit8) il8 id8 ik8
  have q8 := I8.binds (ps := ["self", "number"]) fun _ _ _ _ _ _ us hl => match us, hl with | [_, _], _ => rfl
  have n9 := PySem.W.mg_of X G cm9
  have n10 := PySem.W.mg_of X G cm10
  have n11 := PySem.W.mg_of X G cm11
  have n12 := PySem.W.mg_of X G cm12
  refine ⟨PySem.W.fnOf "law" "law" (defArgs sLaw) (defBody sLaw) (defScope sLaw) .none kV6 dc6 pm6 an6 cd6 ct6, fun s v => .of_eq rfl, fun base hK hN => ?_⟩
  have M0 : Mk1 l.prog w K mg base "NoKey" c0 "key" g0 _ := ⟨ok_init0 I0, n0, ia0, ii0, q0⟩
  have M1 : Mk1 l.prog w K mg base "NoDay" c1 "day" g1 _ := ⟨ok_init1 I1, n1, ia1, ii1, q1⟩
  have M2 : Mk1 l.prog w K mg base "NoValue" c2 "thing" g2 _ := ⟨ok_init2 I2, n2, ia2, ii2, q2⟩
  have M3 : Mk1 l.prog w K mg base "NoFinding" c3 "number" g3 _ := ⟨ok_init3 I3, n3, ia3, ii3, q3⟩
  have M4 : Mk1 l.prog w K mg base "Gone" c4 "number" g4 _ := ⟨ok_init4 I4, n4, ia4, ii4, q4⟩
  have M5 : Mk1 l.prog w K mg base "NoTurn" c5 "turn" g5 _ := ⟨ok_init5 I5, n5, ia5, ii5, q5⟩
  have M6 : Mk1 l.prog w K mg base "BadQuestion" c6 "place" g6 _ := ⟨ok_init6 I6, n6, ia6, ii6, q6⟩
  have M7 : Mk1 l.prog w K mg base "NoName" c7 "name" g7 _ := ⟨ok_init7 I7, n7, ia7, ii7, q7⟩
  have M8 : Mk1 l.prog w K mg base "NoGiven" c8 "number" g8 _ := ⟨ok_init8 I8, n8, ia8, ii8, q8⟩
  have Z9 : Mk0 K mg "NoKeys" c9 := ⟨n9, ia9⟩
  have Z10 : Mk0 K mg "Full" c10 := ⟨n10, ia10⟩
  have Z11 : Mk0 K mg "NoBox" c11 := ⟨n11, ia11⟩
  have Z12 : Mk0 K mg "NoLine" c12 := ⟨n12, ia12⟩
  have CL : Cal l.prog w K mg base "_law_cell" 3 ["_law_script", "_law_k"] (spCell K) f1 _ := ⟨(FnOk.mono (j := 1) (ok_cell F1 N.len) (by decide)), m1, k1, b1⟩
  have CM : Cal l.prog w K mg base "_law_mixed" 3 ["_law_cell_here", "_law_k"] spMixed f2 _ := ⟨(FnOk.mono (j := 1) (ok_mixed F2) (by decide)), m2, k2, b2⟩
  have CK : Cal l.prog w K mg base "_law_kinds" 3 ["_law_error"] (spKinds [c0, c1, c2, c3, c4, c5, c6, c7, c8, c9, c10, c11, c12]) f3 _ := ⟨(FnOk.mono (j := 1) (ok_kinds F3 N KK n0 n1 n2 n3 n4 n5 n6 n7 n8 n9 n10 n11 n12) (by decide)), m3, k3, b3⟩
  have CD : Cal l.prog w K mg base "_law_made" 3 ["_law_way", "_law_thing"] (spMade [c0, c1, c2, c3, c4, c5, c6, c7, c8, c9, c10, c11, c12]) f4 _ := ⟨(ok_made F4 KK M0 M1 M2 M3 M4 M5 M6 M7 M8 Z9 Z10 Z11 Z12), m4, k4, b4⟩
  have CF : Cal l.prog w K mg base "_law_field" 3 ["_law_error", "_law_thing"] (spField [c0, c1, c2, c3, c4, c5, c6, c7, c8, c9, c10, c11, c12]) f5 _ := ⟨(FnOk.mono (j := 1) (ok_field F5 N KK n0 n1 n2 n3 n4 n5 n6 n7 n8 n9 n10 n11 n12) (by decide)), m5, k5, b5⟩
  exact ok_law F6 N KK (PySem.W.mg_of X G aU) CL CM CD CK CF
theorem walk {l : PySem.W.OpenLaw} {q : Program} {loose : List Str} {XP : (Str → Option Value) → Heap → Prop} {YP : World → Heap → Prop} {d : DefRec} {K : Params → PySem.W.Frag} (hn : l.most = some 63) (hdf : d.params.defaults = [])
    (hY : ∀ (w : World) (h : Heap), YP w h → (K w.params).In h)
    (F : ∀ (w : World) (mg : Str → Option Value) (fa : Addr) (h : Heap), (K w.params).In h → h.Ns mainGlobals mg → mg d.name = some (.ref fa) →
      ∃ fd : FuncData, (∀ (s : Shared) (u : Value), BindsTo s fd ⟨[u], []⟩ [("_law_script", u)]) ∧
        ∀ base : Heap, (K w.params).In base → base.Ns mainGlobals mg → FnOk l.prog w (K w.params) mg base CX0 4 fa fd ["_law_script"] (spLaw (K w.params))) :
    PySem.W.WalkO q loose XP YP l.row.toRowW d [] (fun f vs => PySem.call f vs) :=
  walk_ofK (n := 63) (k := 4) (x := "_law_script") (CX := CX0) (sp := spLaw) hn (by decide) hdf ⟨rfl, by decide, by decide⟩ hY F (fun K H a ns hl hO hS => ⟨a, ns, rfl, hS, hl, fun _ => rfl⟩) fun _ _ _ _ h => h
end Mine
open PySem PySem.W PyProof.Rows
set_option maxRecDepth 100000 in
set_option maxHeartbeats 0 in
theorem PySem.Challenge.cw_unsaybook_k06_refusals_apart_holds : PySem.Challenge.rw_unsaybook_k06_refusals_apart.Holds := by
  w_on; o_law; k_head; (case hw => w_witness2)
  k_fill
  refine' Mine.walk (l := PySem.Challenge.rw_unsaybook_k06_refusals_apart) rfl rfl (fun w h Y => PySem.W.kIn_of Y) ?F
  case F =>
    intro w mg fa h KX G hmg
    refine' Mine.all_mk KX G hmg ?a1 ?l1 ?d1 ?k1 ?a2 ?l2 ?d2 ?k2 ?a3 ?l3 ?d3 ?k3 ?a4 ?l4 ?d4 ?k4 ?a5 ?l5 ?d5 ?k5 ?a6 ?l6 ?d6 ?k6 ?cm0 ?cx0 ?cga0 ?cgn0 ?ccl0 ?csa0 ?ckp0 ?ia0 ?ii0 ?il0 ?id0 ?ik0 ?nf0 ?cm1 ?cx1 ?cga1 ?cgn1 ?ccl1 ?csa1 ?ckp1 ?ia1 ?ii1 ?il1 ?id1 ?ik1 ?nf1 ?cm2 ?cx2 ?cga2 ?cgn2 ?ccl2 ?csa2 ?ckp2 ?ia2 ?ii2 ?il2 ?id2 ?ik2 ?nf2 ?cm3 ?cx3 ?cga3 ?cgn3 ?ccl3 ?csa3 ?ckp3 ?ia3 ?ii3 ?il3 ?id3 ?ik3 ?nf3 ?cm4 ?cx4 ?cga4 ?cgn4 ?ccl4 ?csa4 ?ckp4 ?ia4 ?ii4 ?il4 ?id4 ?ik4 ?nf4 ?cm5 ?cx5 ?cga5 ?cgn5 ?ccl5 ?csa5 ?ckp5 ?ia5 ?ii5 ?il5 ?id5 ?ik5 ?nf5 ?cm6 ?cx6 ?cga6 ?cgn6 ?ccl6 ?csa6 ?ckp6 ?ia6 ?ii6 ?il6 ?id6 ?ik6 ?nf6 ?cm7 ?cx7 ?cga7 ?cgn7 ?ccl7 ?csa7 ?ckp7 ?ia7 ?ii7 ?il7 ?id7 ?ik7 ?nf7 ?cm8 ?cx8 ?cga8 ?cgn8 ?ccl8 ?csa8 ?ckp8 ?ia8 ?ii8 ?il8 ?id8 ?ik8 ?nf8 ?cm9 ?cx9 ?cga9 ?cgn9 ?ccl9 ?csa9 ?ckp9 ?ia9 ?cm10 ?cx10 ?cga10 ?cgn10 ?ccl10 ?csa10 ?ckp10 ?ia10 ?cm11 ?cx11 ?cga11 ?cgn11 ?ccl11 ?csa11 ?ckp11 ?ia11 ?cm12 ?cx12 ?cga12 ?cgn12 ?ccl12 ?csa12 ?ckp12 ?ia12 ?aU ?sp ?tk ?kk ?z1 ?z2 ?z3 ?z4 ?z5 ?z6
    (case aU => k_is)
    (case a1 => k_is)
    (case l1 => k_is)
    (case d1 => k_is)
    (case k1 => k_is)
    (case a2 => k_is)
    (case l2 => k_is)
    (case d2 => k_is)
    (case k2 => k_is)
    (case a3 => k_is)
    (case l3 => k_is)
    (case d3 => k_is)
    (case k3 => k_is)
    (case a4 => k_is)
    (case l4 => k_is)
    (case d4 => k_is)
    (case k4 => k_is)
    (case a5 => k_is)
    (case l5 => k_is)
    (case d5 => k_is)
    (case k5 => k_is)
    (case a6 => k_is)
    (case l6 => k_is)
    (case d6 => k_is)
    (case k6 => k_is)
    (case cm0 => k_is)
    (case cga0 => k_is)
    (case cgn0 => k_is)
    (case ccl0 => k_is)
    (case csa0 => k_is)
    (case ckp0 => k_is)
    (case ia0 => k_is)
    (case ii0 => k_is)
    (case il0 => k_is)
    (case id0 => k_is)
    (case ik0 => k_is)
    (case nf0 => k_is)
    (case cm1 => k_is)
    (case cga1 => k_is)
    (case cgn1 => k_is)
    (case ccl1 => k_is)
    (case csa1 => k_is)
    (case ckp1 => k_is)
    (case ia1 => k_is)
    (case ii1 => k_is)
    (case il1 => k_is)
    (case id1 => k_is)
    (case ik1 => k_is)
    (case nf1 => k_is)
    (case cm2 => k_is)
    (case cga2 => k_is)
    (case cgn2 => k_is)
    (case ccl2 => k_is)
    (case csa2 => k_is)
    (case ckp2 => k_is)
    (case ia2 => k_is)
    (case ii2 => k_is)
    (case il2 => k_is)
    (case id2 => k_is)
    (case ik2 => k_is)
    (case nf2 => k_is)
    (case cm3 => k_is)
    (case cga3 => k_is)
    (case cgn3 => k_is)
    (case ccl3 => k_is)
    (case csa3 => k_is)
    (case ckp3 => k_is)
    (case ia3 => k_is)
    (case ii3 => k_is)
    (case il3 => k_is)
    (case id3 => k_is)
    (case ik3 => k_is)
    (case nf3 => k_is)
    (case cm4 => k_is)
    (case cga4 => k_is)
    (case cgn4 => k_is)
    (case ccl4 => k_is)
    (case csa4 => k_is)
    (case ckp4 => k_is)
    (case ia4 => k_is)
    (case ii4 => k_is)
    (case il4 => k_is)
    (case id4 => k_is)
    (case ik4 => k_is)
    (case nf4 => k_is)
    (case cm5 => k_is)
    (case cga5 => k_is)
    (case cgn5 => k_is)
    (case ccl5 => k_is)
    (case csa5 => k_is)
    (case ckp5 => k_is)
    (case ia5 => k_is)
    (case ii5 => k_is)
    (case il5 => k_is)
    (case id5 => k_is)
    (case ik5 => k_is)
    (case nf5 => k_is)
    (case cm6 => k_is)
    (case cga6 => k_is)
    (case cgn6 => k_is)
    (case ccl6 => k_is)
    (case csa6 => k_is)
    (case ckp6 => k_is)
    (case ia6 => k_is)
    (case ii6 => k_is)
    (case il6 => k_is)
    (case id6 => k_is)
    (case ik6 => k_is)
    (case nf6 => k_is)
    (case cm7 => k_is)
    (case cga7 => k_is)
    (case cgn7 => k_is)
    (case ccl7 => k_is)
    (case csa7 => k_is)
    (case ckp7 => k_is)
    (case ia7 => k_is)
    (case ii7 => k_is)
    (case il7 => k_is)
    (case id7 => k_is)
    (case ik7 => k_is)
    (case nf7 => k_is)
    (case cm8 => k_is)
    (case cga8 => k_is)
    (case cgn8 => k_is)
    (case ccl8 => k_is)
    (case csa8 => k_is)
    (case ckp8 => k_is)
    (case ia8 => k_is)
    (case ii8 => k_is)
    (case il8 => k_is)
    (case id8 => k_is)
    (case ik8 => k_is)
    (case nf8 => k_is)
    (case cm9 => k_is)
    (case cga9 => k_is)
    (case cgn9 => k_is)
    (case ccl9 => k_is)
    (case csa9 => k_is)
    (case ckp9 => k_is)
    (case ia9 => k_is)
    (case cm10 => k_is)
    (case cga10 => k_is)
    (case cgn10 => k_is)
    (case ccl10 => k_is)
    (case csa10 => k_is)
    (case ckp10 => k_is)
    (case ia10 => k_is)
    (case cm11 => k_is)
    (case cga11 => k_is)
    (case cgn11 => k_is)
    (case ccl11 => k_is)
    (case csa11 => k_is)
    (case ckp11 => k_is)
    (case ia11 => k_is)
    (case cm12 => k_is)
    (case cga12 => k_is)
    (case cgn12 => k_is)
    (case ccl12 => k_is)
    (case csa12 => k_is)
    (case ckp12 => k_is)
    (case ia12 => k_is)
    (case sp => k_is)
    (case tk => k_is)
    (case z1 => k_is)
    (case z2 => k_is)
    (case z3 => k_is)
    (case z4 => k_is)
    (case z5 => k_is)
    (case z6 => k_is)
    (case cx0 => first | k_is | kernel_rfl)
    (case cx1 => first | k_is | kernel_rfl)
    (case cx2 => first | k_is | kernel_rfl)
    (case cx3 => first | k_is | kernel_rfl)
    (case cx4 => first | k_is | kernel_rfl)
    (case cx5 => first | k_is | kernel_rfl)
    (case cx6 => first | k_is | kernel_rfl)
    (case cx7 => first | k_is | kernel_rfl)
    (case cx8 => first | k_is | kernel_rfl)
    (case cx9 => first | k_is | kernel_rfl)
    (case cx10 => first | k_is | kernel_rfl)
    (case cx11 => first | k_is | kernel_rfl)
    (case cx12 => first | k_is | kernel_rfl)
    (case kk => first | k_is | kernel_rfl)
