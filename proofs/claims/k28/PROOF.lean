import PyProof.Rows.All
import Wide.All
import OpenK.AllK
import Wide.FinOn
import Lean
import PyProof.EqAt
import PyProof.EqKinds
import PyProof.TupleCall
import PySem.Challenge.RW_pairsheath_k28_around_a_ring
set_option Elab.async false
set_option linter.all false
set_option maxRecDepth 100000
/-! THE HAND LAYER, for ints, bools, texts, own classes, LISTS and tuples (index, slices, in, append, pop ..), calls, loops. Paste it whole ahead of your own text; what your proof does not reach may be deleted. -/
namespace L2
open PySem PySem.Spec PyProof.Rows

/-- a key: an int or a str -/
abbrev Key := Sum Int Str
def keyIs : Key → Value → Bool
  | .inl k, v => Value.isInt k v
  | .inr x, v => Value.isStrOf x v
def keyH (w : World) : Key → Int
  | .inl k => hashInt k
  | .inr x => hashStr w x
theorem keyIs_shape : ∀ {k : Key} {v : Value}, keyIs k v = true → (∃ i t, k = Sum.inl i ∧ v = Value.int i t) ∨ (∃ x t, k = Sum.inr x ∧ v = Value.str x t)
  | .inl i, v, h => by
    obtain ⟨t, e⟩ := Value.isInt_shape (k := i) (v := v) h
    exact .inl ⟨i, t, rfl, e⟩
  | .inr x, v, h => by
    obtain ⟨t, e⟩ := Value.isStrOf_shape (x := x) (v := v) h
    exact .inr ⟨x, t, rfl, e⟩
theorem keyIs_int (i : Int) (t : Tok) : keyIs (.inl i) (.int i t) = true := by simp [keyIs, Value.isInt]
theorem keyIs_str (x : Str) (t : Tok) : keyIs (.inr x) (.str x t) = true := by simp [keyIs, Value.isStrOf]
theorem key_ll (a b : Int) : decide ((Sum.inl a : Key) = Sum.inl b) = (a == b) := by
  by_cases e : a = b
  · subst e; simp
  · have h : ¬ (Sum.inl a : Key) = Sum.inl b := fun q => e (Sum.inl.inj q)
    rw [decide_eq_false h]
    exact (beq_eq_false_iff_ne.mpr e).symm
theorem key_rr (a b : Str) : decide ((Sum.inr a : Key) = Sum.inr b) = decide (a = b) := by
  by_cases e : a = b
  · subst e; simp
  · have h : ¬ (Sum.inr a : Key) = Sum.inr b := fun q => e (Sum.inr.inj q)
    rw [decide_eq_false h, decide_eq_false e]
theorem key_lr (a : Int) (b : Str) : decide ((Sum.inl a : Key) = Sum.inr b) = false := decide_eq_false (fun q => nomatch q)
theorem key_rl (a : Str) (b : Int) : decide ((Sum.inr a : Key) = Sum.inl b) = false := decide_eq_false (fun q => nomatch q)

def mixKind (prog : Program) (w : World) : PySem.KeyKind prog w Key where
  is := keyIs
  hash := keyH w
  inj := fun v a b ha hb => by
    rcases keyIs_shape ha with ⟨i, t, rfl, rfl⟩ | ⟨x, t, rfl, rfl⟩
    · rcases keyIs_shape hb with ⟨j, u, rfl, e⟩ | ⟨y, u, rfl, e⟩
      · injection e with e1 _; rw [e1]
      · exact nomatch e
    · rcases keyIs_shape hb with ⟨j, u, rfl, e⟩ | ⟨y, u, rfl, e⟩
      · exact nomatch e
      · injection e with e1 _; rw [e1]
  byValue := fun k v h => by
    rcases keyIs_shape h with ⟨i, t, rfl, rfl⟩ | ⟨x, t, rfl, rfl⟩ <;> rfl
  pyHash := fun hv h => by
    rcases keyIs_shape hv with ⟨i, t, rfl, rfl⟩ | ⟨x, t, rfl, rfl⟩
    · exact wpAny_pyHash_int h
    · exact wpAny_pyHash_str h
  eqBool := fun hu hv h => by
    rcases keyIs_shape hu with ⟨i, t, rfl, rfl⟩ | ⟨x, t, rfl, rfl⟩
    · rcases keyIs_shape hv with ⟨j, u, rfl, rfl⟩ | ⟨y, u, rfl, rfl⟩
      · rw [key_ll] at h; exact wpAny_eqBool_int h
      · rw [key_lr] at h; exact SeqAt.EqAt.int_str i t y u _ _ _ _ h
    · rcases keyIs_shape hv with ⟨j, u, rfl, rfl⟩ | ⟨y, u, rfl, rfl⟩
      · rw [key_rl] at h; exact SeqAt.EqAt.str_int x t j u _ _ _ _ h
      · rw [key_rr] at h; exact wpAny_eqBool_str h
  «strs» := fun k x t v h => by
    rcases keyIs_shape h with ⟨i, u, rfl, e⟩ | ⟨y, u, rfl, e⟩
    · exact nomatch e
    · injection e with e1 _
      subst e1
      cases v <;> rfl

theorem mixKind_int (prog : Program) (w : World) (i : Int) (t : Tok) : (mixKind prog w).is (.inl i) (.int i t) = true := keyIs_int i t
theorem mixKind_str (prog : Program) (w : World) (x : Str) (t : Tok) : (mixKind prog w).is (.inr x) (.str x t) = true := keyIs_str x t
end L2

namespace L2
open PySem PySem.Spec PyProof.Rows

/-- a value, without the heap -/
inductive V where
  | non | bl (b : Bool) | int (i : Int) | str (x : Str) | byt (b : Array UInt8) | flt (b : UInt64) | ref (a : Addr) | ty (n : String)
  deriving DecidableEq

def RelV : V → Value → Prop
  | .non, u => u = Value.none
  | .bl b, u => u = Value.bool b
  | .int i, u => ∃ t, u = Value.int i t
  | .str x, u => ∃ t, u = Value.str x t
  | .byt b, u => ∃ t, u = Value.bytes b t
  | .flt b, u => ∃ t, u = Value.float b t
  | .ref a, u => u = Value.ref a
  | .ty n, u => u = Value.type n

abbrev Vals : List V → List Value → Prop := Paired RelV
theorem Vals.length {xs : List V} {us : List Value} (r : Vals xs us) : xs.length = us.length := Paired.length r
theorem Vals.get : ∀ {xs : List V} {us : List Value} {i : Nat} {x : V}, Vals xs us → xs[i]? = some x → ∃ u, us[i]? = some u ∧ RelV x u
  | _, _, _, _, .nil, e => by simp at e
  | _, _, 0, _, .cons r _, e => by simp at e; subst e; exact ⟨_, rfl, r⟩
  | _, _, i + 1, x, .cons _ t, e => by
    obtain ⟨u, h1, h2⟩ := Vals.get (i := i) (x := x) t (by simpa using e)
    exact ⟨u, by simpa using h1, h2⟩
theorem Vals.append : ∀ {xs ys : List V} {us ws : List Value}, Vals xs us → Vals ys ws → Vals (xs ++ ys) (us ++ ws)
  | _, _, _, _, .nil, s => s
  | _, _, _, _, .cons r t, s => .cons r (Vals.append t s)
theorem Vals.take : ∀ {xs : List V} {us : List Value} (n : Nat), Vals xs us → Vals (xs.take n) (us.take n)
  | _, _, 0, _ => .nil
  | _, _, _ + 1, .nil => .nil
  | _, _, n + 1, .cons r t => .cons r (Vals.take n t)
theorem Vals.drop : ∀ {xs : List V} {us : List Value} (n : Nat), Vals xs us → Vals (xs.drop n) (us.drop n)
  | _, _, 0, r => r
  | _, _, _ + 1, .nil => .nil
  | _, _, n + 1, .cons _ t => Vals.drop n t

def RelO : Option V → Option Value → Prop
  | some v, some u => RelV v u
  | none, none => True
  | _, _ => False
def KV {κ : Type} : List (κ × V) → List (κ × Value) → Prop := Paired fun (p : κ × V) (q : κ × Value) => p.1 = q.1 ∧ RelV p.2 q.2

/-- a key of a dict (00_mix): an int or a text -/
def kV : Key → V
  | .inl i => .int i
  | .inr x => .str x

/-- what stands at a tracked address -/
inductive HO where
  /-- a list -/
  | lst (xs : List V)
  /-- a tuple (never changes) -/
  | tup (xs : List V)
  /-- a dict whose keys are ints and texts; one whose keys are tuples of ints and texts (the empty one is both) -/
  | dK (kvs : List (Key × V)) | dT (kvs : List (List Key × V))
  /-- a set of ints: its members, its size -/
  | set (S : Int → Bool) (n : Nat)
  /-- an instance of the class at C, its dict at dx, its attributes -/
  | ins (C dx : Addr) (fs : List (Str × V))
  /-- the dict of the instance at x -/
  | own (x : Addr)
  /-- the dict of an exception -/
  | xd (fs : List (Str × V))
  /-- a bound method, f of x -/
  | met (f x : Addr)
  /-- a range object lo, lo + 1, .. below hi -/
  | rng (lo hi : Int)
  /-- a thing that is known to the object (the script; a dict while a loop walks it): read, never written while it is so -/
  | frz (o : Obj) (u : HO)
  /-- a code object's table -/
  | tbl (ps : Array Value)
  /-- any other thing, by what is true of its one object (a def of one's own: SetO a S n := HO.ext fun h => ..) -/
  | ext (φ : Heap → Prop)

abbrev Hp := Addr → Option HO
def upd (H : Hp) (a : Addr) (o : HO) : Hp := fun b => if b = a then some o else H b
theorem upd_same {H : Hp} {a : Addr} {o : HO} : upd H a o a = some o := by unfold upd; rw [if_pos rfl]
theorem upd_ne {H : Hp} {a b : Addr} {o : HO} (h : b ≠ a) : upd H a o b = H b := by unfold upd; rw [if_neg h]
/-- two objects of different content stand apart -/
theorem ne_of {H : Hp} {a b : Addr} {o u : HO} (h : H a = some o) (h' : H b = some u) (d : o ≠ u) : a ≠ b := by
  intro e; subst e; rw [h] at h'; exact d (Option.some.inj h')
theorem ne_of_none {H : Hp} {a b : Addr} {o : HO} (h : H a = some o) (h' : H b = none) : a ≠ b := by
  intro e; subst e; rw [h] at h'; cases h'

section
variable (P : Program) (w : World)
def ObjOk (H : Hp) (h : Heap) (a : Addr) : HO → Prop
  | .lst xs => xs.length ≤ sizeLine ∧ ∃ (its : List Value) (n : Nat), Vals xs its ∧ h.get? a = some { cls := .type "list", data := .seq its.toArray n }
  | .tup xs => xs.length ≤ sizeLine ∧ ∃ its : List Value, Vals xs its ∧ IsTup h a its.toArray
  | .dK kvs => kvs.length ≤ sizeLine ∧ (a == sysModules) = false ∧ ∃ vs, KV kvs vs ∧ h.DictOf (mixKind P w) a vs
  | .dT kvs => kvs.length ≤ sizeLine ∧ (a == sysModules) = false ∧ ∃ xs : List (List Key × Addr × Value),
      Paired (fun (p : List Key × V) (q : List Key × Addr × Value) => p.1 = q.1 ∧ H q.2.1 = some (.tup (p.1.map kV)) ∧ RelV p.2 q.2.2) kvs xs ∧
      ∃ o es ep, h.get? a = some o ∧ o.ExactDict ∧ o.data = .dict es ep ∧ es.toList = xs.map (entryOfKey (tupleKind (mixKind P w))) ∧ (xs.map (·.1)).Nodup
  | .set S n => h.SetOf (intKind P w) a S n
  | .ins C dx fs => H dx = some (.own a) ∧ fs.length ≤ 1000 ∧ dx ≠ a ∧ h.get? a = some (PySem.W.instObj C dx) ∧
      ∃ mA, h.Ns1 dx mA ∧ (∀ f, RelO (fs.lookup f) (mA f)) ∧ PySem.Within mA (fs.map (·.1))
  | .own _ => ∃ o, h.get? a = some o
  | .xd fs => ∃ mA, h.Ns1 a mA ∧ ∀ f, RelO (fs.lookup f) (mA f)
  | .rng lo hi => ∃ t u v, h.get? a = some { cls := .type "range", data := .fields #[.int lo t, .int hi u, .int 1 v] }
  | .frz o u => h.get? a = some o ∧ ObjOk H h a u
  | .tbl ps => h.get? a = some { cls := .none, data := .fields ps }
  | .met f x => h.get? a = some (PySem.W.methodObj (.ref f) (.ref x))
  | .ext φ => φ h ∧ (∃ o, h.get? a = some o) ∧ ∀ h1 h2 : Heap, φ h1 → (∀ o, h1.get? a = some o → h2.get? a = some o) → φ h2
/-- the abstract heap is held -/
def HOk (H : Hp) (h : Heap) : Prop := ∀ a o, H a = some o → ObjOk P w H h a o
end

section
variable {P : Program} {w : World} {H H' : Hp} {h h' : Heap} {a : Addr} {o : HO}
theorem ObjOk.lt (x : ObjOk P w H h a o) : a < h.objs.size := by
  cases o with
  | lst xs => obtain ⟨_, _, _, _, e⟩ := x; exact Heap.lt_size e
  | tup xs => obtain ⟨_, _, _, p⟩ := x; exact p.lt
  | dK kvs => obtain ⟨_, _, _, _, o, _, _, e, _⟩ := x; exact Heap.lt_size e
  | dT kvs => obtain ⟨_, _, _, _, o, _, _, e, _⟩ := x; exact Heap.lt_size e
  | set S n => obtain ⟨o, _, _, _, e, _⟩ := x; exact Heap.lt_size e
  | ins C dx fs => obtain ⟨_, _, _, e, _⟩ := x; exact Heap.lt_size e
  | own y => obtain ⟨_, e⟩ := x; exact Heap.lt_size e
  | xd fs => obtain ⟨_, ⟨_, _, _, e, _⟩, _⟩ := x; exact Heap.lt_size e
  | rng lo hi => obtain ⟨_, _, _, e⟩ := x; exact Heap.lt_size e
  | frz ob u => obtain ⟨e, _⟩ := x; exact Heap.lt_size e
  | tbl ps => exact Heap.lt_size (show h.get? a = some _ from x)
  | met f y => exact Heap.lt_size (show h.get? a = some _ from x)
  | ext φ => obtain ⟨_, ⟨_, e⟩, _⟩ := x; exact Heap.lt_size e
theorem Paired.mapP {α β : Type} {F G : α → β → Prop} : ∀ {l₁ : List α} {l₂ : List β}, Paired F l₁ l₂ → (∀ a b, F a b → G a b) → Paired G l₁ l₂
  | _, _, .nil, _ => .nil
  | _, _, .cons r t, f => .cons (f _ _ r) (Paired.mapP t f)
/-- what an object's description leans on: its own object, its own dict, the tuples -/
theorem ObjOk.stay (x : ObjOk P w H h a o) (k : ∀ b u, (b = a ∨ H b = some (.own a)) → h.get? b = some u → h'.get? b = some u)
    (ho : ∀ b, H b = some (.own a) → H' b = some (.own a)) (ht : ∀ b xs, H b = some (.tup xs) → H' b = some (.tup xs)) : ObjOk P w H' h' a o := by
  induction o with
  | lst xs => obtain ⟨z, its, n, r, e⟩ := x; exact ⟨z, its, n, r, k _ _ (.inl rfl) e⟩
  | tup xs => obtain ⟨z, its, r, ob, e, c⟩ := x; exact ⟨z, its, r, ob, k _ _ (.inl rfl) e, c⟩
  | dK kvs => obtain ⟨z, y, vs, r, ob, es, ep, e, c⟩ := x; exact ⟨z, y, vs, r, ob, es, ep, k _ _ (.inl rfl) e, c⟩
  | dT kvs =>
    obtain ⟨z, y, xs, r, ob, es, ep, e, c⟩ := x
    exact ⟨z, y, xs, Paired.mapP r fun p q z => ⟨z.1, ht _ _ z.2.1, z.2.2⟩, ob, es, ep, k _ _ (.inl rfl) e, c⟩
  | set S n => obtain ⟨ob, es, ep, t, e, c⟩ := x; exact ⟨ob, es, ep, t, k _ _ (.inl rfl) e, c⟩
  | ins C dx fs =>
    obtain ⟨d, z, ne, e, mA, ⟨od, es, ep, e2, c⟩, r⟩ := x
    exact ⟨ho _ d, z, ne, k _ _ (.inl rfl) e, mA, ⟨od, es, ep, k _ _ (.inr d) e2, c⟩, r⟩
  | own y => obtain ⟨ob, e⟩ := x; exact ⟨ob, k _ _ (.inl rfl) e⟩
  | xd fs => obtain ⟨mA, ⟨od, es, ep, e, c⟩, r⟩ := x; exact ⟨mA, ⟨od, es, ep, k _ _ (.inl rfl) e, c⟩, r⟩
  | rng lo hi => obtain ⟨t, u, v, e⟩ := x; exact ⟨t, u, v, k _ _ (.inl rfl) e⟩
  | frz ob u ih => obtain ⟨e, q⟩ := x; exact ⟨k _ _ (.inl rfl) e, ih q⟩
  | tbl ps =>
    have e : h.get? a = some { cls := .none, data := .fields ps } := x
    show h'.get? a = some { cls := .none, data := .fields ps }
    exact k a _ (.inl rfl) e
  | met f y =>
    have e : h.get? a = some (PySem.W.methodObj (.ref f) (.ref y)) := x
    show h'.get? a = some (PySem.W.methodObj (.ref f) (.ref y))
    exact k a _ (.inl rfl) e
  | ext φ => obtain ⟨p, ⟨o, e⟩, st⟩ := x; exact ⟨st _ _ p fun o q => k _ _ (.inl rfl) q, ⟨o, k _ _ (.inl rfl) e⟩, st⟩
theorem HOk.lt (x : HOk P w H h) (e : H a = some o) : a < h.objs.size := (x a o e).lt
theorem HOk.fresh (x : HOk P w H h) (e : h.objs.size ≤ a) : H a = none := by
  cases q : H a with
  | none => rfl
  | some u => exact absurd (Nat.lt_of_lt_of_le (x.lt q) e) (Nat.lt_irrefl _)
/-- every object of the heap is kept -/
theorem HOk.kept (x : HOk P w H h) (k : ∀ b u, h.get? b = some u → h'.get? b = some u) : HOk P w H h' := fun a o e =>
  (x a o e).stay (fun b u _ q => k b u q) (fun _ q => q) fun _ _ q => q
/-- a new object is laid and tracked -/
theorem HOk.laid (x : HOk P w H h) (k : ∀ b u, h.get? b = some u → h'.get? b = some u) (hp : h.objs.size ≤ a) (new : ObjOk P w (upd H a o) h' a o) : HOk P w (upd H a o) h' := fun b u e => by
  have hn := x.fresh hp
  by_cases hb : b = a
  · subst hb; rw [upd_same] at e; cases e; exact new
  · rw [upd_ne hb] at e
    exact (x b u e).stay (fun c v _ q => k c v q) (fun c q => by rw [upd_ne (ne_of_none q hn)]; exact q) fun c xs q => by rw [upd_ne (ne_of_none q hn)]; exact q
end

/-- what may be read as u: it is u, or a known u -/
def Rd (H : Hp) (a : Addr) (u : HO) : Prop := H a = some u ∨ ∃ o, H a = some (.frz o u)
theorem Rd.ok {P : Program} {w : World} {H : Hp} {h : Heap} {a : Addr} {u : HO} (r : Rd H a u) (x : HOk P w H h) : ObjOk P w H h a u := by
  rcases r with r | ⟨o, r⟩
  · exact x a u r
  · obtain ⟨_, q⟩ := x a _ r
    exact q
/-- what may be written -/
def Mut : Option HO → Prop
  | some (.lst _) => True
  | some (.dK _) => True
  | some (.dT _) => True
  | some (.set _ _) => True
  | some (.ins _ _ _) => True
  | some (.ext _) => True
  | _ => False
section
variable {P : Program} {w : World} {H : Hp} {h h' : Heap} {x e : Addr} {o' : HO}
/-- the object at e is changed: x itself, or the dict of the instance x -/
theorem HOk.write (ok : HOk P w H h) (mu : Mut (H x)) (he : e = x ∨ H e = some (.own x)) (k : ∀ b u, b ≠ e → h.get? b = some u → h'.get? b = some u) (heo : ∃ u, h'.get? e = some u)
    (new : ObjOk P w (upd H x o') h' x o') : HOk P w (upd H x o') h' := fun b u q => by
  have nown : ∀ c y, H c = some (.own y) → c ≠ x := fun c y r z => by subst z; rw [r] at mu; exact mu
  have ntup : ∀ c xs, H c = some (.tup xs) → c ≠ x := fun c xs r z => by subst z; rw [r] at mu; exact mu
  by_cases hb : b = x
  · subst hb; rw [upd_same] at q; cases q; exact new
  · rw [upd_ne hb] at q
    by_cases hbe : b = e
    · have q' : H b = some (.own x) := by
        rcases he with z | z
        · exact absurd (hbe.trans z) hb
        · rw [hbe]; exact z
      rw [q] at q'; cases q'
      obtain ⟨v, hv⟩ := heo
      exact ⟨v, by rw [hbe]; exact hv⟩
    · refine (ok b u q).stay (fun c v hc r => k c v ?_ r) (fun c r => by rw [upd_ne (nown c b r)]; exact r) fun c xs r => by rw [upd_ne (ntup c xs r)]; exact r
      rcases hc with rfl | hc
      · exact hbe
      · rintro rfl
        rcases he with z | z
        · exact nown c b hc z
        · rw [hc] at z; cases z; exact hb rfl
end

/-! ### kept unless tracked; of the frames at fs (the callers') the slots may change (an exception that passes writes there); of the records at ex (iterators) nothing is said -/
structure Un (fs ex : List Addr) (H H' : Hp) (h h' : Heap) : Prop where
  keep : ∀ b o, h.get? b = some o → H b = none → b ∉ fs → b ∉ ex → h'.get? b = some o
  slot : ∀ b o, h.get? b = some o → H b = none → b ∈ fs → b ∉ ex → ∃ sl, h'.get? b = some { o with slots := sl }
  free : ∀ b o, h.get? b = some o → H b = none → b ∉ ex → H' b = none
  there : ∀ b o, h.get? b = some o → b ∉ ex → ∃ o', h'.get? b = some o'
  tups : ∀ b xs, H b = some (.tup xs) → H' b = some (.tup xs)
  frzs : ∀ b o u, H b = some (.frz o u) → H' b = some (.frz o u)
  tbls : ∀ b ps, H b = some (.tbl ps) → ∃ more, H' b = some (.tbl (ps ++ more))
section
variable {fs fs' ex ex' : List Addr} {H H1 H2 : Hp} {h h1 h2 h' : Heap} {a x e : Addr} {o : HO}
theorem Un.any (u : Un fs ex H H1 h h1) {b : Addr} {ob : Obj} (q : h.get? b = some ob) (n : H b = none) (hx : b ∉ ex) : ∃ sl, h1.get? b = some { ob with slots := sl } := by
  by_cases hb : b ∈ fs
  · exact u.slot b ob q n hb hx
  · exact ⟨ob.slots, u.keep b ob q n hb hx⟩
theorem Un.kept (k : ∀ b u, h.get? b = some u → h'.get? b = some u) : Un fs ex H H h h' :=
  ⟨fun b ob q _ _ _ => k b ob q, fun b ob q _ _ _ => ⟨ob.slots, k b ob q⟩, fun _ _ _ n _ => n, fun b ob q _ => ⟨ob, k b ob q⟩, fun _ _ q => q, fun _ _ _ q => q, fun _ ps q => ⟨#[], by rw [q]; simp⟩⟩
theorem Un.refl : Un fs ex H H h h := Un.kept fun _ _ q => q
theorem Un.laid (k : ∀ b u, h.get? b = some u → h'.get? b = some u) (hp : h.objs.size ≤ a) (hn : H a = none) : Un fs ex H (upd H a o) h h' where
  keep := fun b u q _ _ _ => k b u q
  slot := fun b u q _ _ _ => ⟨u.slots, k b u q⟩
  free := fun b u q n _ => by rw [upd_ne (Nat.ne_of_lt (Nat.lt_of_lt_of_le (Heap.lt_size q) hp))]; exact n
  there := fun b u q _ => ⟨u, k b u q⟩
  tups := fun b xs q => by rw [upd_ne (ne_of_none q hn)]; exact q
  frzs := fun b u xs q => by rw [upd_ne (ne_of_none q hn)]; exact q
  tbls := fun b ps q => ⟨#[], by rw [upd_ne (ne_of_none q hn), q]; simp⟩
theorem Un.write (mu : Mut (H x)) (he : e = x ∨ H e = some (.own x)) (k : ∀ b u, b ≠ e → h.get? b = some u → h'.get? b = some u) (heo : ∃ u, h'.get? e = some u) : Un fs ex H (upd H x o) h h' := by
  have hx : ∀ b, H b = none → b ≠ x := fun b n z => by subst z; rw [n] at mu; exact mu
  have hb : ∀ b, H b = none → b ≠ e := fun b n z => by
    subst z
    rcases he with r | r
    · exact hx b n r
    · rw [n] at r; cases r
  have hm : ∀ b u, H b = some u → ¬ Mut (some u) → b ≠ x := fun b u q nm z => by subst z; rw [q] at mu; exact nm mu
  refine ⟨fun b u q n _ _ => k b u (hb b n) q, fun b u q n _ _ => ⟨u.slots, k b u (hb b n) q⟩, fun b u q n _ => by rw [upd_ne (hx b n)]; exact n, fun b u q _ => ?_,
    fun b xs q => by rw [upd_ne (hm b _ q fun z => z)]; exact q, fun b u xs q => by rw [upd_ne (hm b _ q fun z => z)]; exact q, fun b ps q => ⟨#[], by rw [upd_ne (hm b _ q fun z => z), q]; simp⟩⟩
  by_cases hbe : b = e
  · subst hbe; exact heo
  · exact ⟨u, k b u hbe q⟩
end

/-! ### the heap without what is tracked -/
def trk (h : Heap) (H : Hp) : List Addr := (List.range h.objs.size).filter fun a => (H a).isSome
def hidT (h : Heap) (H : Hp) : Heap := PySem.W.hideAll h (trk h H)
theorem hidT_size (h : Heap) (H : Hp) : (hidT h H).objs.size = h.objs.size := PySem.W.hideAll_size _ _
theorem hidT_get {h : Heap} {H : Hp} {b : Addr} {o : Obj} (e : h.get? b = some o) (n : H b = none) : (hidT h H).get? b = some o :=
  PySem.W.hideAll_get _ e fun hm => by
    have q : (H b).isSome = true := (List.mem_filter.mp hm).2
    rw [n] at q; simp at q
theorem of_hidT {h : Heap} {H : Hp} {b : Addr} {o : Obj} (e : (hidT h H).get? b = some o) : h.get? b = some o ∧ H b = none := by
  have e' : h.get? b = some o := PySem.W.of_hideAll (trk h H) e
  refine ⟨e', ?_⟩
  cases q : H b with
  | none => rfl
  | some x =>
    have hm : b ∈ trk h H := List.mem_filter.mpr ⟨List.mem_range.mpr (Heap.lt_size e'), by simp [q]⟩
    have z : (hidT h H).get? b = none := PySem.W.hideAll_none (trk h H) hm
    rw [z] at e; cases e

/-! ### OpenK's ledger, filled with every new object but one -/
def allNews (g h : Heap) (L : Addr) : List (Addr × Obj) := (List.range h.objs.size).filterMap fun a => if a = L ∨ (g.get? a).isSome = true then none else (h.get? a).map fun o => (a, o)
def rest (g h : Heap) (L d : Addr) : List (Addr × Obj) := (allNews g h L).filter fun p => decide (p.1 ≠ d)
end L2

namespace L2
open PySem PySem.Spec PyProof.Rows

/-- the module's facts, over the base: the heap at the law's entry without what is tracked there -/
structure Mod (K : PySem.W.Frag) (mg : Str → Option Value) (base : Heap) : Prop where
  kin : K.In base
  glob : base.Ns mainGlobals mg
  blt : ∃ mb, base.Ns builtinsNs mb ∧ ∀ x : Str, x ≠ "__name__" → mb x = bootBuiltins x
  nolimit : base.NoLimit

/-- the context: a def's body (or a comprehension's block) running. base: fixed through the whole law; s₀, H₀: the entry; outer: the frames whose slots others may change (a def's callers); stack: all frames that run;
   ex: iterators that were made ahead of the entry and are walked here (a comprehension's); fn: the names whose cells were made at the entry (a def: all; a comprehension's block: its own); calm: not within an except suite; pn: pins that every state bears; xe: what is wanted of an exception that leaves the code -/
structure Cx where
  prog : Program
  w : World
  K : PySem.W.Frag
  mg : Str → Option Value
  base : Heap
  A : Around
  N : List Str
  s₀ : Shared
  H₀ : Hp
  env : Env
  outer : List Env
  stack : List Env
  ex : List Addr
  fn : Str → Bool
  calm : Bool
  pn : List (Addr × Obj)
  xe : Value → Shared → Prop
/-- the callers' frames -/
def frs (l : List Env) : List Addr := l.filterMap (·.frame)
abbrev Cx.fs (X : Cx) : List Addr := frs X.outer

def Vis (sc : Scope) (x : Str) : Prop := sc.names.lookup x = some .local ∨ sc.names.lookup x = some .cell ∨ sc.names.lookup x = some .free
def Loc (sc : Scope) (x : Str) : Prop := sc.names.lookup x = some .local ∨ sc.names.lookup x = some .cell
def Look (env : Env) (h : Heap) (m : Str → Option Value) (x : Str) (u : Value) : Prop :=
  (env.kindOf x = some .local ∧ m x = some u) ∨ ((env.kindOf x = some .cell ∨ env.kindOf x = some .free) ∧ ∃ c, env.cells.lookup x = some c ∧ h.IsCell c (some u))

structure Cx.Ok (X : Cx) : Prop where
  mod : Mod X.K X.mg X.base
  kind : X.env.scope.kind = .function
  glob : X.env.globals = mainGlobals
  blt : X.env.builtins = builtinsNs
  above : X.s₀.heap.objs.size ≤ X.env.locals
  inj : ∀ x y c, X.env.cells.lookup x = some c → X.env.cells.lookup y = some c → x = y
  has : ∀ x, (X.env.kindOf x = some .cell ∨ X.env.kindOf x = some .free) → ∃ c, X.env.cells.lookup x = some c
  cab : ∀ x c, X.fn x = true → X.env.cells.lookup x = some c → X.s₀.heap.objs.size ≤ c
  hd : X.calm = true → X.A.handled = none
  frames : X.A.frames = some X.stack
  stk : X.stack = X.outer ∨ (X.stack = X.env :: X.outer ∧ X.env.frame = some X.env.locals)
  exf : ∀ b ∈ X.ex, b ≠ X.env.locals ∧ ∀ x c, X.env.cells.lookup x = some c → c ≠ b
  bs : ∀ b o, X.base.get? b = some o → X.s₀.heap.get? b = some o ∧ X.H₀ b = none
  bsz : X.base.objs.size ≤ X.s₀.heap.objs.size
  noex : ∀ b o, X.base.get? b = some o → b ∉ X.ex
  exfs : ∀ b ∈ X.ex, b ∉ X.fs
  funs : X.s₀.heap.FunFrames X.base X.outer
  frf : ∀ b ∈ X.fs, X.H₀ b = none

structure Inv (X : Cx) (pins : List (Addr × Obj)) (σ : List (Option V)) (H : Hp) (s : Shared) : Prop where
  ok : X.Ok
  os : s.os = X.s₀.os
  bare : AllBare s.gens
  base : Un X.fs X.ex X.H₀ H X.s₀.heap s.heap
  loc : ∃ m, s.heap.Ns X.env.locals m ∧ ∀ (i : Nat) (x : Str) (v : V), X.N[i]? = some x → σ[i]? = some (some v) → Vis X.env.scope x → ∃ u, RelV v u ∧ Look X.env s.heap m x u
  cell : ∀ x c, X.env.cells.lookup x = some c → ∃ v, s.heap.IsCell c v
  free : H X.env.locals = none
  freeC : ∀ x c, X.env.cells.lookup x = some c → H c = none
  pin : ∀ p ∈ X.pn ++ pins, s.heap.get? p.1 = some p.2 ∧ H p.1 = none ∧ p.1 ≠ X.env.locals ∧ p.1 ∉ X.fs ∧ ∀ v, p.2.data ≠ .cell v
  hok : HOk X.prog X.w H s.heap
  len : σ.length = X.N.length

section
variable {X : Cx} {pins : List (Addr × Obj)} {σ : List (Option V)} {H H' : Hp} {s : Shared} {h' : Heap}

theorem Cx.Ok.nofr (ok : X.Ok) {b : Addr} {o : Obj} (e : X.base.get? b = some o) : b ∉ X.fs := fun hb => by
  have := (ok.funs.mem hb).1
  rw [e] at this; cases this
theorem Inv.bs (I : Inv X pins σ H s) : ∀ b o, X.base.get? b = some o → s.heap.get? b = some o ∧ H b = none := fun b o e =>
  ⟨I.base.keep b o (I.ok.bs b o e).1 (I.ok.bs b o e).2 (I.ok.nofr e) (I.ok.noex b o e), I.base.free b o (I.ok.bs b o e).1 (I.ok.bs b o e).2 (I.ok.noex b o e)⟩
theorem Inv.bk (I : Inv X pins σ H s) : ∀ b o, X.base.get? b = some o → s.heap.get? b = some o := fun b o e => (I.bs b o e).1
theorem Inv.mod (I : Inv X pins σ H s) : Mod X.K X.mg X.base := I.ok.mod
theorem Inv.kIn (I : Inv X pins σ H s) : X.K.In s.heap := I.ok.mod.kin.keeps I.bk
theorem Inv.lt (I : Inv X pins σ H s) : X.env.locals < s.heap.objs.size := let ⟨_, hn, _⟩ := I.loc; hn.lt
theorem Inv.sz (I : Inv X pins σ H s) : X.s₀.heap.objs.size ≤ s.heap.objs.size := Nat.le_trans I.ok.above (Nat.le_of_lt I.lt)
theorem Inv.nofs (I : Inv X pins σ H s) {a : Addr} (h : s.heap.objs.size ≤ a) : a ∉ X.fs := fun hb => by
  obtain ⟨_, o, ho, _⟩ := I.ok.funs.mem hb
  exact absurd (Nat.lt_of_lt_of_le (Heap.lt_size ho) (Nat.le_trans I.sz h)) (Nat.lt_irrefl _)
theorem Inv.cne (I : Inv X pins σ H s) : ∀ x c, X.env.cells.lookup x = some c → c ≠ X.env.locals := fun x c e z => by
  obtain ⟨v, o, ho, hd⟩ := I.cell x c e
  obtain ⟨m, ⟨o', es, ep, ho', hd', _⟩, _⟩ := I.loc
  rw [z, ho'] at ho; cases ho; rw [hd'] at hd; cases hd
theorem Inv.funs (I : Inv X pins σ H s) : s.heap.FunFrames X.base X.outer := by
  have all : ∀ (l : List Env), (∀ b ∈ frs l, b ∈ X.fs) → X.s₀.heap.FunFrames X.base l → s.heap.FunFrames X.base l := by
    intro l
    induction l with
    | nil => intro _ _; trivial
    | cons env r ih =>
      intro hs hl
      obtain ⟨hk, ⟨L, o, hf, hn, ho, hd⟩, hr⟩ := hl
      have hL : L ∈ X.fs := hs L (by unfold frs; rw [List.filterMap_cons, hf]; exact List.mem_cons_self)
      obtain ⟨sl, e⟩ := I.base.slot L o ho (I.ok.frf L hL) hL fun z => I.ok.exfs L z hL
      exact ⟨hk, ⟨L, _, hf, hn, e, hd⟩, ih (fun b hb => hs b (by unfold frs; rw [List.filterMap_cons, hf]; exact List.mem_cons_of_mem _ hb)) hr⟩
  exact all X.outer (fun _ hb => hb) I.ok.funs

/-- the frames that run, for a call -/
theorem Inv.stack (I : Inv X pins σ H s) : s.heap.FunFrames X.base X.stack := by
  rcases I.ok.stk with e | ⟨e, hf⟩
  · rw [e]; exact I.funs
  · rw [e]
    obtain ⟨m, hn, _⟩ := I.loc
    refine .cons (by rw [I.ok.kind]; decide) hf hn ?_ I.funs
    exact Heap.get?_none_of_le (Nat.le_trans I.ok.bsz I.ok.above)
theorem Inv.stkSub (I : Inv X pins σ H s) : ∀ b ∈ frs X.stack, b ∈ X.env.locals :: X.fs := fun b hb => by
  rcases I.ok.stk with e | ⟨e, hf⟩
  · rw [e] at hb; exact List.mem_cons_of_mem _ hb
  · rw [e] at hb
    unfold frs at hb
    rw [List.filterMap_cons, hf] at hb
    exact hb
theorem Inv.stkFree (I : Inv X pins σ H s) : ∀ b ∈ frs X.stack, H b = none := fun b hb => by
  rcases List.mem_cons.mp (I.stkSub b hb) with e | hb
  · rw [e]; exact I.free
  · obtain ⟨_, o, ho, _⟩ := I.ok.funs.mem hb
    exact I.base.free b o ho (I.ok.frf b hb) fun z => I.ok.exfs b z hb

/-- THE STEP: the untracked objects but the frame and the records at ch are kept (the callers' frames up to slots), the frame's map is kept, the new abstract heap is held -/
theorem Inv.step {g' : Array GenState} {t' : Nat} {d' : Drawn} {ch : List Addr} (I : Inv X pins σ H s)
    (hch : ∀ b ∈ ch, (b ∈ X.ex ∨ X.s₀.heap.objs.size ≤ b) ∧ b ≠ X.env.locals ∧ (∀ x c, X.env.cells.lookup x = some c → c ≠ b) ∧ ∀ p ∈ X.pn ++ pins, p.1 ≠ b)
    (keep : ∀ b o, b ≠ X.env.locals → b ∉ X.fs → b ∉ ch → s.heap.get? b = some o → H b = none → h'.get? b = some o)
    (slot : ∀ b o, b ≠ X.env.locals → b ∈ X.fs → b ∉ ch → s.heap.get? b = some o → H b = none → ∃ sl, h'.get? b = some { o with slots := sl }) (free : ∀ b o, b ∉ ch → s.heap.get? b = some o → H b = none → H' b = none)
    (there : ∀ b o, b ∉ ch → s.heap.get? b = some o → ∃ o', h'.get? b = some o')
    (tups : ∀ b xs, H b = some (.tup xs) → H' b = some (.tup xs)) (frzs : ∀ b o u, H b = some (.frz o u) → H' b = some (.frz o u)) (tbls : ∀ b ps, H b = some (.tbl ps) → ∃ more, H' b = some (.tbl (ps ++ more)))
    (ns : ∀ m, s.heap.Ns X.env.locals m → h'.Ns X.env.locals m) (hok : HOk X.prog X.w H' h') (hg : AllBare g') :
    Inv X pins σ H' { s with heap := h', gens := g', drawn := d', toks := t' } := by
  have neL : ∀ b o, X.s₀.heap.get? b = some o → b ≠ X.env.locals := fun b o e => Nat.ne_of_lt (Nat.lt_of_lt_of_le (Heap.lt_size e) I.ok.above)
  have neC : ∀ b o, X.s₀.heap.get? b = some o → b ∉ X.ex → b ∉ ch := fun b o e hx hb => by
    rcases (hch b hb).1 with z | z
    · exact hx z
    · exact absurd (Nat.lt_of_lt_of_le (Heap.lt_size e) z) (Nat.lt_irrefl _)
  have cellK : ∀ x c, X.env.cells.lookup x = some c → ∀ v, s.heap.IsCell c v → h'.IsCell c v := fun x c e v ⟨o, ho, hd⟩ => by
    have nch : c ∉ ch := fun z => (hch c z).2.2.1 x c e rfl
    by_cases hc : c ∈ X.fs
    · obtain ⟨sl, q⟩ := slot c o (I.cne x c e) hc nch ho (I.freeC x c e)
      exact ⟨_, q, hd⟩
    · exact ⟨o, keep c o (I.cne x c e) hc nch ho (I.freeC x c e), hd⟩
  refine ⟨I.ok, I.os, hg, ⟨fun b o e n hb hx => ?_, fun b o e n hb hx => ?_, fun b o e n hx => ?_, fun b o e hx => ?_, fun b xs e => tups b xs (I.base.tups b xs e), fun b o xs e => frzs b o xs (I.base.frzs b o xs e), fun b ps e => ?_⟩, ?_, fun x c e => ?_, ?_, fun x c e => ?_, fun p hp => ?_, hok, I.len⟩
  · exact keep b o (neL b o e) hb (neC b o e hx) (I.base.keep b o e n hb hx) (I.base.free b o e n hx)
  · obtain ⟨sl, e1⟩ := I.base.slot b o e n hb hx
    obtain ⟨sl', e2⟩ := slot b _ (neL b o e) hb (neC b o e hx) e1 (I.base.free b o e n hx)
    exact ⟨sl', e2⟩
  · obtain ⟨o', e1⟩ := I.base.there b o e hx
    exact free b o' (neC b o e hx) e1 (I.base.free b o e n hx)
  · obtain ⟨o', e1⟩ := I.base.there b o e hx
    exact there b o' (neC b o e hx) e1
  · obtain ⟨m1, e1⟩ := I.base.tbls b ps e
    obtain ⟨m2, e2⟩ := tbls b _ e1
    exact ⟨m1 ++ m2, by rw [e2, Array.append_assoc]⟩
  · obtain ⟨m, hn, hl⟩ := I.loc
    refine ⟨m, ns m hn, fun i x v e1 e2 e3 => ?_⟩
    obtain ⟨u, r, l⟩ := hl i x v e1 e2 e3
    refine ⟨u, r, ?_⟩
    rcases l with l | ⟨k, c, e, z⟩
    · exact .inl l
    · exact .inr ⟨k, c, e, cellK x c e _ z⟩
  · obtain ⟨v, z⟩ := I.cell x c e
    exact ⟨v, cellK x c e v z⟩
  · obtain ⟨m, ⟨o, _, _, ho, _⟩, _⟩ := I.loc
    exact free _ o (fun z => (hch _ z).2.1 rfl) ho I.free
  · obtain ⟨v, o, ho, hd⟩ := I.cell x c e
    exact free c o (fun z => (hch c z).2.2.1 x c e rfl) ho (I.freeC x c e)
  · obtain ⟨e, n, ne, nf, d⟩ := I.pin p hp
    have nch : p.1 ∉ ch := fun z => (hch p.1 z).2.2.2 p hp rfl
    exact ⟨keep p.1 p.2 ne nf nch e n, free p.1 p.2 nch e n, ne, nf, d⟩
/-- .. where the frame's own object is kept too -/
theorem Inv.un {t' : Nat} (I : Inv X pins σ H s) (u : Un X.fs [] H H' s.heap h') (hok : HOk X.prog X.w H' h') : Inv X pins σ H' { s with heap := h', toks := t' } := by
  obtain ⟨m, ⟨o, es, ep, ho, r⟩, _⟩ := id I.loc
  obtain ⟨sl, hL⟩ := u.any ho I.free (by simp)
  exact I.step (g' := s.gens) (d' := s.drawn) (ch := []) (fun _ z => nomatch z) (fun b o _ hb _ e n => u.keep b o e n hb (by simp)) (fun b o _ hb _ e n => u.slot b o e n hb (by simp)) (fun b o _ e n => u.free b o e n (by simp)) (fun b o _ e => u.there b o e (by simp)) u.tups u.frzs u.tbls (fun m' hm => by
    obtain ⟨o', es', ep', ho', r'⟩ := hm
    rw [ho] at ho'; cases ho'
    exact ⟨_, es', ep', hL, r'⟩) hok I.bare
/-- behind a call (or a comprehension's block): the slots of this frame may have changed too, the records at ch may have turned -/
theorem Inv.call {g' : Array GenState} {t' : Nat} {d' : Drawn} {ch : List Addr} (I : Inv X pins σ H s) (u : Un (frs X.stack) ch H H' s.heap h') (hok : HOk X.prog X.w H' h') (hg : AllBare g')
    (hch : ∀ b ∈ ch, (b ∈ X.ex ∨ X.s₀.heap.objs.size ≤ b) ∧ b ≠ X.env.locals ∧ (∀ x c, X.env.cells.lookup x = some c → c ≠ b) ∧ ∀ p ∈ X.pn ++ pins, p.1 ≠ b) :
    Inv X pins σ H' { s with heap := h', gens := g', drawn := d', toks := t' } := by
  obtain ⟨m, ⟨o, es, ep, ho, r⟩, _⟩ := id I.loc
  obtain ⟨sl, hL⟩ := u.any ho I.free fun z => (hch _ z).2.1 rfl
  exact I.step (ch := ch) hch (fun b o hL hb hc e n => u.keep b o e n (fun z => (List.mem_cons.mp (I.stkSub b z)).elim hL hb) hc) (fun b o _ _ hc e n => u.any e n hc) (fun b o hc e n => u.free b o e n hc) (fun b o hc e => u.there b o e hc) u.tups u.frzs u.tbls (fun m' hm => by
    obtain ⟨o', es', ep', ho', r'⟩ := hm
    rw [ho] at ho'; cases ho'
    exact ⟨_, es', ep', hL, r'⟩) hok hg
/-- an untracked record of ours (an iterator) has turned -/
theorem Inv.turned {t' : Nat} {it : Addr} (I : Inv X pins σ H s) (k : ∀ b o, b ≠ it → s.heap.get? b = some o → h'.get? b = some o) (hn : H it = none) (hL : it ≠ X.env.locals)
    (h1 : it ∈ X.ex ∨ X.s₀.heap.objs.size ≤ it) (h2 : ∀ x c, X.env.cells.lookup x = some c → c ≠ it) (h3 : ∀ p ∈ X.pn ++ pins, p.1 ≠ it) : Inv X pins σ H { s with heap := h', toks := t' } := by
  have nit : ∀ b u, H b = some u → b ≠ it := fun b u e z => by rw [z, hn] at e; cases e
  refine I.step (g' := s.gens) (d' := s.drawn) (ch := [it]) (fun b hb => ?_) (fun b o _ _ hc e _ => k b o (fun z => hc (by simp [z])) e) (fun b o _ _ hc e _ => ⟨o.slots, k b o (fun z => hc (by simp [z])) e⟩) (fun _ _ _ _ n => n)
    (fun b o hc e => ⟨o, k b o (fun z => hc (by simp [z])) e⟩) (fun _ _ e => e) (fun _ _ _ e => e) (fun b ps e => ⟨#[], by rw [e]; simp⟩) (fun m hm => ?_) (fun b u e => ?_) I.bare
  · have e : b = it := by simpa using hb
    subst e
    exact ⟨h1, hL, h2, h3⟩
  · obtain ⟨o, es, ep, ho, r⟩ := hm
    exact ⟨o, es, ep, k _ o (Ne.symm hL) ho, r⟩
  · refine (I.hok b u e).stay (fun c v hc q => k c v ?_ q) (fun _ q => q) fun _ _ q => q
    rcases hc with z | z
    · rw [z]; exact nit b u e
    · exact nit c _ z
theorem Inv.tok (I : Inv X pins σ H s) (t : Nat) : Inv X pins σ H { s with toks := t } := I.un (h' := s.heap) (t' := t) Un.refl I.hok
/-- all objects kept -/
theorem Inv.kept {t' : Nat} (I : Inv X pins σ H s) (k : ∀ b u, s.heap.get? b = some u → h'.get? b = some u) : Inv X pins σ H { s with heap := h', toks := t' } := I.un (Un.kept k) (I.hok.kept k)
/-- a new object laid and tracked -/
theorem Inv.laid {a : Addr} {o : HO} {t' : Nat} (I : Inv X pins σ H s) (k : ∀ b u, s.heap.get? b = some u → h'.get? b = some u) (hp : s.heap.objs.size ≤ a) (new : ObjOk X.prog X.w (upd H a o) h' a o) :
    Inv X pins σ (upd H a o) { s with heap := h', toks := t' } := I.un (Un.laid k hp (I.hok.fresh hp)) (I.hok.laid k hp new)
/-- an object written -/
theorem Inv.write {x e : Addr} {o : HO} {t' : Nat} (I : Inv X pins σ H s) (mu : Mut (H x)) (he : e = x ∨ H e = some (.own x)) (k : ∀ b u, b ≠ e → s.heap.get? b = some u → h'.get? b = some u) (heo : ∃ u, h'.get? e = some u)
    (new : ObjOk X.prog X.w (upd H x o) h' x o) : Inv X pins σ (upd H x o) { s with heap := h', toks := t' } := I.un (Un.write mu he k heo) (I.hok.write mu he k heo new)
theorem Inv.pins_of {pins' : List (Addr × Obj)} (I : Inv X pins σ H s) (h : ∀ p ∈ pins', s.heap.get? p.1 = some p.2 ∧ H p.1 = none ∧ p.1 ≠ X.env.locals ∧ p.1 ∉ X.fs ∧ ∀ v, p.2.data ≠ .cell v) : Inv X pins' σ H s :=
  ⟨I.ok, I.os, I.bare, I.base, I.loc, I.cell, I.free, I.freeC, fun p hp => (List.mem_append.mp hp).elim (fun z => I.pin p (List.mem_append_left _ z)) (h p), I.hok, I.len⟩

theorem nodup_ix {N : List Str} (hN : N.Nodup) {i j : Nat} {x : Str} (a : N[i]? = some x) (b : N[j]? = some x) : i = j := by
  obtain ⟨h1, e1⟩ := List.getElem?_eq_some_iff.mp a
  obtain ⟨h2, e2⟩ := List.getElem?_eq_some_iff.mp b
  exact (List.getElem_inj hN).mp (e1.trans e2.symm)

/-- a name is stored; what changed -/
theorem store_ok2 {M : Model} {A : Around} {E : Value → Shared → Prop} {i : Nat} {x : Str} {v : V} {u : Value} {Q : Unit → Shared → Prop} (I : Inv X pins σ H s) (hN : X.N.Nodup) (hi : X.N[i]? = some x) (hx : Loc X.env.scope x) (r : RelV v u)
    (h : ∀ s', Inv X pins (σ.set i (some v)) H s' → (∃ a, Heap.SameBut a s.heap s'.heap ∧ (a = X.env.locals ∨ X.env.cells.lookup x = some a)) → Q () s') (hf : X.fn x = true ∨ X.env.scope.names.lookup x = some .local := by first | exact .inl rfl | exact .inr rfl | assumption) : wpAny M A (storeName X.env x u) Q E s := by
  obtain ⟨m, hn, hl⟩ := id I.loc
  have hcls : (X.env.scope.kind == .class || (X.env.scope.kind == .module && X.env.locals != X.env.globals)) = false := by rw [I.ok.kind]; rfl
  have hiσ : i < σ.length := by rw [I.len]; exact (List.getElem?_eq_some_iff.mp hi).1
  have cne := I.cne
  have tracked : ∀ {a : Addr} {h' : Heap}, (∃ o, s.heap.get? a = some o ∧ H a = none) → Heap.SameBut a s.heap h' → HOk X.prog X.w H h' := fun {a h'} ha hs b ob e => by
    obtain ⟨_, _, hfree⟩ := ha
    refine (I.hok b ob e).stay (fun c w' hc q => (hs.2 c ?_).trans q) (fun _ q => q) fun _ _ q => q
    rintro rfl
    rcases hc with rfl | hc
    · rw [hfree] at e; cases e
    · rw [hfree] at hc; cases hc
  rcases hx with hk | hk
  · refine wpAny_storeName_local hk hn (fun h' hn' hs => ?_) hcls
    obtain ⟨oL, _, _, hoL, _⟩ := id hn
    refine h _ ⟨I.ok, I.os, I.bare, ⟨fun b o e n hb hx => ?_, fun b o e n hb hx => ?_, I.base.free, fun b o e hx => ?_, I.base.tups, I.base.frzs, I.base.tbls⟩, ⟨_, hn', fun j y v' e1 e2 e3 => ?_⟩, fun y c e => ?_, I.free, I.freeC, fun p hp => ?_, tracked ⟨oL, hoL, I.free⟩ hs, by simpa using I.len⟩ ⟨_, hs, .inl rfl⟩
    · exact (hs.2 b (Nat.ne_of_lt (Nat.lt_of_lt_of_le (Heap.lt_size e) I.ok.above))).trans (I.base.keep b o e n hb hx)
    · obtain ⟨sl, e1⟩ := I.base.slot b o e n hb hx
      exact ⟨sl, (hs.2 b (Nat.ne_of_lt (Nat.lt_of_lt_of_le (Heap.lt_size e) I.ok.above))).trans e1⟩
    · obtain ⟨o', e1⟩ := I.base.there b o e hx
      exact ⟨o', (hs.2 b (Nat.ne_of_lt (Nat.lt_of_lt_of_le (Heap.lt_size e) I.ok.above))).trans e1⟩
    · by_cases hj : j = i
      · subst hj
        rw [hi] at e1; cases e1
        rw [List.getElem?_set_self hiσ] at e2
        cases e2
        exact ⟨u, r, .inl ⟨hk, by simp⟩⟩
      · rw [List.getElem?_set_ne (Ne.symm hj)] at e2
        obtain ⟨u', r', q⟩ := hl j y v' e1 e2 e3
        refine ⟨u', r', ?_⟩
        rcases q with ⟨k, e⟩ | ⟨k, c, e, z⟩
        · refine .inl ⟨k, ?_⟩
          have : y ≠ x := fun e => hj (nodup_ix hN e1 (e ▸ hi))
          simp [this, e]
        · exact .inr ⟨k, c, e, z.sameBut hs (cne y c e)⟩
    · obtain ⟨w', z⟩ := I.cell y c e
      exact ⟨w', z.sameBut hs (cne y c e)⟩
    · obtain ⟨e, n, ne, nf, d⟩ := I.pin p hp
      exact ⟨(hs.2 p.1 ne).trans e, n, ne, nf, d⟩
  · have hfn : X.fn x = true := by
      rcases hf with z | z
      · exact z
      · rw [z] at hk; cases hk
    obtain ⟨c, hc⟩ := I.ok.has x (.inl hk)
    obtain ⟨w', z⟩ := I.cell x c hc
    refine wpAny_storeName_cell I.ok.kind hk hc z (fun h' hc' hs => ?_)
    obtain ⟨oc, hoc, hocd⟩ := id z
    refine h { s with heap := h' } ⟨I.ok, I.os, I.bare, ⟨fun b o e n hb hx => ?_, fun b o e n hb hx => ?_, I.base.free, fun b o e hx => ?_, I.base.tups, I.base.frzs, I.base.tbls⟩, ⟨m, hn.sameBut hs (Ne.symm (cne x c hc)), fun j y v' e1 e2 e3 => ?_⟩, fun y c' e => ?_, I.free, I.freeC, fun p hp => ?_, tracked ⟨oc, hoc, I.freeC x c hc⟩ hs, by simpa using I.len⟩ ⟨c, hs, .inr hc⟩
    · exact (hs.2 b (Nat.ne_of_lt (Nat.lt_of_lt_of_le (Heap.lt_size e) (I.ok.cab x c hfn hc)))).trans (I.base.keep b o e n hb hx)
    · obtain ⟨sl, e1⟩ := I.base.slot b o e n hb hx
      exact ⟨sl, (hs.2 b (Nat.ne_of_lt (Nat.lt_of_lt_of_le (Heap.lt_size e) (I.ok.cab x c hfn hc)))).trans e1⟩
    · obtain ⟨o', e1⟩ := I.base.there b o e hx
      exact ⟨o', (hs.2 b (Nat.ne_of_lt (Nat.lt_of_lt_of_le (Heap.lt_size e) (I.ok.cab x c hfn hc)))).trans e1⟩
    · by_cases hj : j = i
      · subst hj
        rw [hi] at e1; cases e1
        rw [List.getElem?_set_self hiσ] at e2
        cases e2
        exact ⟨u, r, .inr ⟨.inl hk, c, hc, hc'⟩⟩
      · rw [List.getElem?_set_ne (Ne.symm hj)] at e2
        obtain ⟨u', r', q⟩ := hl j y v' e1 e2 e3
        refine ⟨u', r', ?_⟩
        rcases q with q | ⟨k, c', e, z'⟩
        · exact .inl q
        · refine .inr ⟨k, c', e, z'.sameBut hs ?_⟩
          rintro rfl
          exact hj (nodup_ix hN e1 (I.ok.inj _ _ _ e hc ▸ hi))
    · by_cases hcc : c' = c
      · subst hcc; exact ⟨_, hc'⟩
      · obtain ⟨w2, z2⟩ := I.cell y c' e
        exact ⟨w2, z2.sameBut hs hcc⟩
    · obtain ⟨e, n, ne, nf, d⟩ := I.pin p hp
      refine ⟨(hs.2 p.1 ?_).trans e, n, ne, nf, d⟩
      intro q
      rw [q, hoc] at e
      have q' : oc = p.2 := Option.some.inj e
      exact d w' (by rw [← q']; exact hocd)
theorem store_ok {M : Model} {A : Around} {E : Value → Shared → Prop} {i : Nat} {x : Str} {v : V} {u : Value} {Q : Unit → Shared → Prop} (I : Inv X pins σ H s) (hN : X.N.Nodup) (hi : X.N[i]? = some x) (hx : Loc X.env.scope x) (r : RelV v u)
    (h : ∀ s', Inv X pins (σ.set i (some v)) H s' → Q () s') (hf : X.fn x = true ∨ X.env.scope.names.lookup x = some .local := by first | exact .inl rfl | exact .inr rfl | assumption) : wpAny M A (storeName X.env x u) Q E s :=
  store_ok2 I hN hi hx r (fun s' I' _ => h s' I') hf
/-- behind a call or a block, the state as it is -/
theorem Inv.call' {s' : Shared} {ch : List Addr} (I : Inv X pins σ H s) (ho : s'.os = s.os) (u : Un (frs X.stack) ch H H' s.heap s'.heap) (hok : HOk X.prog X.w H' s'.heap) (hg : AllBare s'.gens)
    (hch : ∀ b ∈ ch, (b ∈ X.ex ∨ X.s₀.heap.objs.size ≤ b) ∧ b ≠ X.env.locals ∧ (∀ x c, X.env.cells.lookup x = some c → c ≠ b) ∧ ∀ p ∈ X.pn ++ pins, p.1 ≠ b) : Inv X pins σ H' s' := by
  obtain ⟨h', g', d', t', o'⟩ := s'
  have e : o' = s.os := ho
  subst e
  exact I.call (g' := g') (t' := t') (d' := d') u hok hg hch
end

/-! ### the judgements -/
/-- an exception: its class, its own dict's address (where it has one), the abstract heap behind it -/
abbrev XK := Value → Option Addr → Hp → Prop
abbrev St := List (Option V)
abbrev VK := V → Hp → Prop
/-- an expression's reading; a test's; an argument list's -/
abbrev TE := St → Hp → VK → Prop
abbrev TT := St → Hp → (Bool → Hp → Prop) → Prop
abbrev TA := St → Hp → (List V → Hp → Prop) → Prop
/-- what is wanted behind a statement -/
structure Ends where
  nx : St → Hp → Prop
  rt : VK
  bk : St → Hp → Prop := fun _ _ => False
  ct : St → Hp → Prop := fun _ _ => False
abbrev TS := Ends → St → Hp → Prop

def EP (X : Cx) (pins : List (Addr × Obj)) (σ : St) (Q : VK) (u : Value) (s' : Shared) : Prop := ∃ v H', Inv X pins σ H' s' ∧ RelV v u ∧ Q v H'
def TP (X : Cx) (pins : List (Addr × Obj)) (σ : St) (Q : Bool → Hp → Prop) (b : Bool) (s' : Shared) : Prop := ∃ H', Inv X pins σ H' s' ∧ Q b H'
def AP (X : Cx) (pins : List (Addr × Obj)) (σ : St) (Q : List V → Hp → Prop) (us : List Value) (s' : Shared) : Prop := ∃ vs H', Inv X pins σ H' s' ∧ Vals vs us ∧ Q vs H'
def SP (X : Cx) (pins : List (Addr × Obj)) (D : Ends) (f : Flow) (s' : Shared) : Prop :=
  match f with
  | .next => ∃ σ' H', Inv X pins σ' H' s' ∧ D.nx σ' H'
  | .brk => ∃ σ' H', Inv X pins σ' H' s' ∧ D.bk σ' H'
  | .cont => ∃ σ' H', Inv X pins σ' H' s' ∧ D.ct σ' H'
  | .ret u => ∃ v σ' H', Inv X pins σ' H' s' ∧ RelV v u ∧ D.rt v H'

def PE (X : Cx) (e : Expr) (t : TE) : Prop :=
  ∀ (pins : List (Addr × Obj)) (s : Shared) (σ : St) (H : Hp) (Q : VK), Inv X pins σ H s → t σ H Q → wpAny (model X.prog X.w) X.A (eval e X.env) (EP X pins σ Q) X.xe s
def PT (X : Cx) (e : Expr) (t : TT) : Prop :=
  ∀ (pins : List (Addr × Obj)) (s : Shared) (σ : St) (H : Hp) (Q : Bool → Hp → Prop), Inv X pins σ H s → t σ H Q → wpAny (model X.prog X.w) X.A (isTrue e X.env (eval e X.env)) (TP X pins σ Q) X.xe s
/-- a test whatever its 'whole' is (and, or) -/
def PW (X : Cx) (e : Expr) (t : TT) : Prop :=
  ∀ (whole : Sem Value) (pins : List (Addr × Obj)) (s : Shared) (σ : St) (H : Hp) (Q : Bool → Hp → Prop), Inv X pins σ H s → t σ H Q → wpAny (model X.prog X.w) X.A (isTrue e X.env whole) (TP X pins σ Q) X.xe s
theorem PW.pt {X : Cx} {e : Expr} {t : TT} (h : PW X e t) : PT X e t := h _
/-- an argument list (no star), from the left -/
def PA (X : Cx) (es : List Expr) (t : TA) : Prop :=
  ∀ (pos : Pos) (pins : List (Addr × Obj)) (s : Shared) (σ : St) (H : Hp) (Q : List V → Hp → Prop), Inv X pins σ H s → t σ H Q → wpAny (model X.prog X.w) X.A (spliced (backTo pos (starEach es X.env))) (AP X pins σ Q) X.xe s
def PS (X : Cx) (st : Stmt) (t : TS) : Prop :=
  ∀ (pins : List (Addr × Obj)) (s : Shared) (σ : St) (H : Hp) (D : Ends), Inv X pins σ H s → t D σ H → wpAny (model X.prog X.w) X.A (exec st X.env) (SP X pins D) X.xe s
def PSs (X : Cx) (st : List Stmt) (t : TS) : Prop :=
  ∀ (pins : List (Addr × Obj)) (s : Shared) (σ : St) (H : Hp) (D : Ends), Inv X pins σ H s → t D σ H → wpAny (model X.prog X.w) X.A (execs st X.env) (SP X pins D) X.xe s
/-- weaken the end -/
theorem thn {α : Type} {t : Sem α} {Q Q' : α → Shared → Prop} {M : Model} {A : Around} {E : Value → Shared → Prop} {s : Shared} (h : wpAny M A t Q E s) (hQ : ∀ a s, Q a s → Q' a s) : wpAny M A t Q' E s := wpAny_mono h hQ fun _ _ x => x
end L2

namespace L2
open PySem PySem.Spec PyProof.Rows
section
variable {X : Cx}


/-! ### names and constants -/
def tVar (i : Nat) : TE := fun σ H Q => ∃ v, σ[i]? = some (some v) ∧ Q v H
def tC (v : V) : TE := fun _ H Q => Q v H
theorem pe_var {i : Nat} {x : Str} {pos : Pos} (hN : X.N[i]? = some x) (hv : Vis X.env.scope x) (hd : (x == ("__debug__" : Str)) = false := by decide) (hcd : (x == ("__classdict__" : Str)) = false := by decide) : PE X (.Name x pos) (tVar i) := by
  intro pins s σ H Q I h
  obtain ⟨v, e, h⟩ := h
  obtain ⟨m, hn, hl⟩ := I.loc
  obtain ⟨u, r, l⟩ := hl i x v hN e hv
  have fin : EP X pins σ Q u s := ⟨v, H, I, r, h⟩
  rcases l with ⟨hk, hm⟩ | ⟨hk, c, hc, hcell⟩
  · exact wpAny_Name (wpAny_loadName_local I.ok.kind hk hn hm fin) hd
  · rcases hk with hk | hk
    · exact wpAny_Name (wpAny_loadName_cell I.ok.kind hk hc hcell fin) hd
    · exact wpAny_Name (wpAny_loadName_free I.ok.kind hk hc hcell fin hcd) hd
theorem pe_int {i j pos} : PE X (.Constant (.int i) j pos) (tC (.int i)) := fun _ _ _ H _ I h => wpAny_Constant_int ⟨.int i, H, I.tok _, ⟨_, rfl⟩, h⟩
theorem pe_bl {b j pos} : PE X (.Constant (.bool b) j pos) (tC (.bl b)) := fun _ _ _ H _ I h => Constant_bool ⟨.bl b, H, I, rfl, h⟩
theorem pe_non {j pos} : PE X (.Constant .none j pos) (tC .non) := fun _ _ _ H _ I h => Constant_none ⟨.non, H, I, rfl, h⟩

/-- a global name of the def -/
def Gl (X : Cx) (x : Str) : Prop := X.env.kindOf x = some .globalImplicit
theorem ld_glob {E : Value → Shared → Prop} {pins : List (Addr × Obj)} {s : Shared} {σ : St} {H : Hp} {x : Str} {u : Value} {pos : Pos} {Q : Value → Shared → Prop} (I : Inv X pins σ H s) (hg : Gl X x) (hm : X.mg x = some u) (h : Q u s)
    (hd : (x == ("__debug__" : Str)) = false := by decide) : wpAny (model X.prog X.w) X.A (eval (.Name x pos) X.env) Q E s :=
  Calls.Name_function_global I.ok.kind hg (Calls.loadGlobal_global (by rw [I.ok.glob]; exact I.mod.glob.keeps I.bk) hm h) hd
theorem ld_blt {E : Value → Shared → Prop} {pins : List (Addr × Obj)} {s : Shared} {σ : St} {H : Hp} {x : Str} {u : Value} {pos : Pos} {Q : Value → Shared → Prop} (I : Inv X pins σ H s) (hg : Gl X x) (hm : X.mg x = none) (hv : bootBuiltins x = some u) (h : Q u s)
    (hn : x ≠ "__name__" := by decide) (hd : (x == ("__debug__" : Str)) = false := by decide) : wpAny (model X.prog X.w) X.A (eval (.Name x pos) X.env) Q E s := by
  obtain ⟨mb, h1, h2⟩ := I.mod.blt
  exact Calls.Name_function_global I.ok.kind hg (Calls.loadGlobal_builtin (by rw [I.ok.glob]; exact I.mod.glob.keeps I.bk) hm (by rw [I.ok.blt]; exact h1.keeps I.bk) ((h2 x hn).trans hv) h) hd
theorem pe_bltn {x : Str} {v : V} {u : Value} {pos : Pos} (hg : Gl X x) (hm : X.mg x = none) (hv : bootBuiltins x = some u) (r : RelV v u) (hn : x ≠ "__name__" := by decide) (hd : (x == ("__debug__" : Str)) = false := by decide) : PE X (.Name x pos) (tC v) :=
  fun _ _ _ H _ I h => ld_blt I hg hm hv ⟨v, H, I, r, h⟩ hn hd

/-! ### arithmetic -/
/-- two ints -/
def t2I (ta tb : TE) (k : Int → Int → Hp → Prop) : St → Hp → Prop := fun σ H => ta σ H fun x H1 => tb σ H1 fun y H2 => ∃ i j, x = .int i ∧ y = .int j ∧ k i j H2
def tAdd (ta tb : TE) : TE := fun σ H Q => t2I ta tb (fun i j H2 => Q (.int (i + j)) H2) σ H
def tSub (ta tb : TE) : TE := fun σ H Q => t2I ta tb (fun i j H2 => Q (.int (i - j)) H2) σ H
/-- the left factor below 2^64 -/
def tMul (ta tb : TE) : TE := fun σ H Q => t2I ta tb (fun i j H2 => (-(2 ^ 64) < i ∧ i < 2 ^ 64) ∧ Q (.int (i * j)) H2) σ H
variable {a b : Expr} {ta tb : TE} {pos : Pos}

/-! ### comparisons -/
def PC (X : Cx) (op : CmpOp) (a b : Expr) (t : TE) : Prop :=
  ∀ (pins : List (Addr × Obj)) (s : Shared) (σ : St) (H : Hp) (Q : VK), Inv X pins σ H s → t σ H Q →
    wpAny (model X.prog X.w) X.A (eval a X.env) (fun v s₁ => wpAny (model X.prog X.w) X.A (eval b X.env) (fun u s₂ => wpAny (model X.prog X.w) X.A (compareOp op v u) (EP X pins σ Q) X.xe s₂) X.xe s₁) X.xe s
def tCmp (p : Int → Int → Bool) (ta tb : TE) : TE := fun σ H Q => t2I ta tb (fun i j H2 => Q (.bl (p i j)) H2) σ H
abbrev tLt : TE → TE → TE := tCmp fun i j => decide (i < j)
abbrev tLe : TE → TE → TE := tCmp fun i j => decide (i ≤ j)
abbrev tGt : TE → TE → TE := tCmp fun i j => decide (j < i)
abbrev tGe : TE → TE → TE := tCmp fun i j => decide (j ≤ i)
abbrev tEqI : TE → TE → TE := tCmp fun i j => decide (i = j)
abbrev tNeI : TE → TE → TE := tCmp fun i j => !decide (i = j)
/-- is None -/
def tIsN (ta : TE) : TE := fun σ H Q => ta σ H fun x H1 => Q (.bl (decide (x = .non))) H1
def tNotN (ta : TE) : TE := fun σ H Q => ta σ H fun x H1 => Q (.bl (!decide (x = .non))) H1
/-- a comparison as a value, as a test -/
def tB (t : TE) : TT := fun σ H Q => t σ H fun x H1 => ∃ c, x = .bl c ∧ Q c H1
/-- an expression whose value is a bool, as a test -/
theorem pt_val {e : Expr} {t : TE} (h : PE X e t) (he : ∀ whole, isTrue e X.env whole = (do let v ← whole; standAt e.pos; holding [v] (truthy v)) := by intro _; rfl) : PT X e (tB t) := by
  intro pins s σ H Q I hw
  refine isTrue_plain (thn (h pins s σ H _ I hw) fun v s1 ⟨x, H1, I1, r1, q1⟩ => ?_) (he _)
  obtain ⟨d, rfl, q⟩ := q1
  cases r1
  exact wpAny_truthy_bool ⟨H1, I1, q⟩

/-! ### and, or, not -/
variable {tA tB' : TT} {rest : List Expr}
def tAnd (t u : TT) : TT := fun σ H Q => t σ H fun c H1 => if c = true then u σ H1 Q else Q false H1
def tOr (t u : TT) : TT := fun σ H Q => t σ H fun c H1 => if c = true then Q true H1 else u σ H1 Q
def tNot (t : TT) : TT := fun σ H Q => t σ H fun c H1 => Q (!c) H1
theorem pw_and1 (ha : PT X a tA) : PW X (.BoolOp .And [a] pos) tA := by
  intro wh pins s σ H Q I h
  refine isTrue_and (thn (ha pins s σ H Q I h) fun c s1 e => ?_)
  cases c with
  | true => exact isTrue_and_nil e
  | false => exact e
theorem pw_or1 (ha : PT X a tA) : PW X (.BoolOp .Or [a] pos) tA := by
  intro wh pins s σ H Q I h
  refine isTrue_or (thn (ha pins s σ H Q I h) fun c s1 e => ?_)
  cases c with
  | false => exact isTrue_or_nil e
  | true => exact e
theorem pw_and (ha : PT X a tA) (hb : PW X (.BoolOp .And (b :: rest) pos) tB') : PW X (.BoolOp .And (a :: b :: rest) pos) (tAnd tA tB') := by
  intro wh pins s σ H Q I h
  refine isTrue_and (thn (ha pins s σ H _ I h) fun c s1 ⟨H1, I1, q1⟩ => ?_)
  cases c with
  | true => exact hb wh pins s1 σ H1 Q I1 q1
  | false => exact ⟨H1, I1, q1⟩
theorem pw_or (ha : PT X a tA) (hb : PW X (.BoolOp .Or (b :: rest) pos) tB') : PW X (.BoolOp .Or (a :: b :: rest) pos) (tOr tA tB') := by
  intro wh pins s σ H Q I h
  refine isTrue_or (thn (ha pins s σ H _ I h) fun c s1 ⟨H1, I1, q1⟩ => ?_)
  cases c with
  | true => exact ⟨H1, I1, q1⟩
  | false => exact hb wh pins s1 σ H1 Q I1 q1
theorem pt_not (ha : PT X a tA) : PT X (.UnaryOp .Not a pos) (tNot tA) := by
  intro pins s σ H Q I h
  exact isTrue_not (ha pins s σ H (fun c H1 => Q (!c) H1) I h)
/-- .. as values (bools) -/
def tAndV (ta tb : TE) : TE := fun σ H Q => ta σ H fun x H1 => ∃ c, x = .bl c ∧ if c = true then tb σ H1 Q else Q (.bl false) H1
def tOrV (ta tb : TE) : TE := fun σ H Q => ta σ H fun x H1 => ∃ c, x = .bl c ∧ if c = true then Q (.bl true) H1 else tb σ H1 Q
def tNotV (ta : TE) : TE := fun σ H Q => ta σ H fun x H1 => ∃ c, x = .bl c ∧ Q (.bl (!c)) H1
theorem pe_one {op} {t : TE} (h : PE X a t) : PE X (.BoolOp op [a] pos) t := fun pins s σ H Q I hw => BoolOp_one (h pins s σ H Q I hw)
theorem pe_and (ha : PE X a ta) (hb : PE X (.BoolOp .And (b :: rest) pos) tb) : PE X (.BoolOp .And (a :: b :: rest) pos) (tAndV ta tb) := by
  intro pins s σ H Q I h
  refine BoolOp_and (thn (ha pins s σ H _ I h) fun v s1 ⟨x, H1, I1, r1, q1⟩ => ?_)
  obtain ⟨c, rfl, q1⟩ := q1
  cases r1
  refine wpAny_truthy_bool ?_
  cases c with
  | true => exact hb pins s1 σ H1 Q I1 q1
  | false => exact ⟨.bl false, H1, I1, rfl, q1⟩
theorem pe_not (ha : PE X a ta) : PE X (.UnaryOp .Not a pos) (tNotV ta) := by
  intro pins s σ H Q I h
  refine UnaryOp_ (thn (ha pins s σ H _ I h) fun v s1 ⟨x, H1, I1, r1, q1⟩ => ?_)
  obtain ⟨c, rfl, q1⟩ := q1
  cases r1
  exact not_of (wpAny_truthy_bool ⟨.bl (!c), H1, I1, rfl, q1⟩)
/-- a if t else b -/
def tIf (t : TT) (ta tb : TE) : TE := fun σ H Q => t σ H fun c H1 => if c = true then ta σ H1 Q else tb σ H1 Q
end
end L2

namespace L2
open PySem PySem.Spec PyProof.Rows

/-! ### a list, a tuple that is read: tracked, frozen, or an object of the module -/
def SqL (K : PySem.W.Frag) (H : Hp) (a : Addr) (xs : List V) : Prop :=
  Rd H a (.lst xs) ∨
    ∃ (o : Obj) (its : Array Value) (n : Nat), K.lookup a = some o ∧ o.cls = .type "list" ∧ o.dict = none ∧ o.data = .seq its n ∧ its.size ≤ sizeLine ∧ Vals xs its.toList
def SqT (K : PySem.W.Frag) (H : Hp) (a : Addr) (xs : List V) : Prop :=
  Rd H a (.tup xs) ∨
    ∃ (o : Obj) (its : Array Value) (n : Nat), K.lookup a = some o ∧ o.cls = .type "tuple" ∧ o.data = .seq its n ∧ its.size ≤ sizeLine ∧ Vals xs its.toList
def absV : Value → Option V
  | .none => some .non
  | .bool b => some (.bl b)
  | .int i _ => some (.int i)
  | .str x _ => some (.str x)
  | .bytes b _ => some (.byt b)
  | .float b _ => some (.flt b)
  | .ref a => some (.ref a)
  | .type n => some (.ty n)
  | _ => none
theorem RelV.abs {x : V} {u : Value} (r : RelV x u) : absV u = some x := by
  cases x with
  | non => cases r; rfl
  | bl _ => cases r; rfl
  | int _ => obtain ⟨t, rfl⟩ := r; rfl
  | str _ => obtain ⟨t, rfl⟩ := r; rfl
  | byt _ => obtain ⟨t, rfl⟩ := r; rfl
  | flt _ => obtain ⟨t, rfl⟩ := r; rfl
  | ref _ => cases r; rfl
  | ty _ => cases r; rfl
theorem RelV.inj {x y : V} {u : Value} (r : RelV x u) (q : RelV y u) : x = y := Option.some.inj (r.abs.symm.trans q.abs)
theorem Vals.inj : ∀ {xs ys : List V} {us : List Value}, Vals xs us → Vals ys us → xs = ys
  | _, _, _, .nil, .nil => rfl
  | _, _, _, .cons r t, .cons r' t' => by rw [r.inj r', Vals.inj t t']
section
variable {X : Cx} {pins : List (Addr × Obj)} {σ : St} {H : Hp} {s : Shared} {a : Addr} {xs ys : List V}
theorem SqL.of {K : PySem.W.Frag} (h : H a = some (.lst xs)) : SqL K H a xs := .inl (.inl h)
theorem SqT.of {K : PySem.W.Frag} (h : H a = some (.tup xs)) : SqT K H a xs := .inl (.inl h)
theorem Inv.list (I : Inv X pins σ H s) (h : SqL X.K H a xs) : ∃ its : List Value, Vals xs its ∧ PlainL s.heap a its.toArray ∧ xs.length ≤ sizeLine := by
  rcases h with h | ⟨o, its, n, hk, hc, hd, hs, hz, r⟩
  · obtain ⟨z, its, n, r, e⟩ := h.ok I.hok
    exact ⟨its, r, ⟨_, n, e, rfl, rfl, rfl⟩, z⟩
  · refine ⟨its.toList, r, ⟨o, n, I.kIn a o hk, hc, hd, by simpa using hs⟩, ?_⟩
    have e := r.length
    simp only [Array.length_toList] at e
    omega
theorem Inv.tuple (I : Inv X pins σ H s) (h : SqT X.K H a xs) : ∃ its : List Value, Vals xs its ∧ IsTup s.heap a its.toArray ∧ xs.length ≤ sizeLine := by
  rcases h with h | ⟨o, its, n, hk, hc, hs, hz, r⟩
  · obtain ⟨z, its, r, p⟩ := h.ok I.hok
    exact ⟨its, r, p, z⟩
  · refine ⟨its.toList, r, ⟨o, I.kIn a o hk, hc, n, by simpa using hs⟩, ?_⟩
    have e := r.length
    simp only [Array.length_toList] at e
    omega
theorem Inv.list_inj (I : Inv X pins σ H s) (h : SqL X.K H a xs) (h' : SqL X.K H a ys) : xs = ys := by
  obtain ⟨its, r, ⟨o, n, e, _, _, d⟩, _⟩ := I.list h
  obtain ⟨its', r', ⟨o', n', e', _, _, d'⟩, _⟩ := I.list h'
  rw [e] at e'; cases e'
  rw [d] at d'
  injection d' with d1 _
  have : its = its' := by simpa using congrArg Array.toList d1
  subst this
  exact r.inj r'
end

/-! ### another wish about exceptions -/
abbrev Cx.wish (X : Cx) (E : Value → Shared → Prop) : Cx := { X with xe := E }
/-- no exception leaves -/
abbrev Cx.nox (X : Cx) : Cx := X.wish fun _ _ => False
theorem Cx.Ok.wish {X : Cx} (ok : X.Ok) (E : Value → Shared → Prop) : (X.wish E).Ok :=
  ⟨ok.mod, ok.kind, ok.glob, ok.blt, ok.above, ok.inj, ok.has, ok.cab, ok.hd, ok.frames, ok.stk, ok.exf, ok.bs, ok.bsz, ok.noex, ok.exfs, ok.funs, ok.frf⟩
theorem Cx.Ok.unwish {X : Cx} {E : Value → Shared → Prop} (ok : (X.wish E).Ok) : X.Ok :=
  ⟨ok.mod, ok.kind, ok.glob, ok.blt, ok.above, ok.inj, ok.has, ok.cab, ok.hd, ok.frames, ok.stk, ok.exf, ok.bs, ok.bsz, ok.noex, ok.exfs, ok.funs, ok.frf⟩
section
variable {X : Cx} {pins : List (Addr × Obj)} {σ : St} {H : Hp} {s : Shared} {E : Value → Shared → Prop}
theorem Inv.wish (I : Inv X pins σ H s) (E : Value → Shared → Prop) : Inv (X.wish E) pins σ H s := ⟨I.ok.wish E, I.os, I.bare, I.base, I.loc, I.cell, I.free, I.freeC, I.pin, I.hok, I.len⟩
theorem Inv.unwish (I : Inv (X.wish E) pins σ H s) : Inv X pins σ H s := ⟨I.ok.unwish, I.os, I.bare, I.base, I.loc, I.cell, I.free, I.freeC, I.pin, I.hok, I.len⟩
theorem SP.unwish {D : Ends} {f : Flow} {s' : Shared} (h : SP (X.wish E) pins D f s') : SP X pins D f s' := by
  cases f with
  | next => obtain ⟨σ', H', I, q⟩ := h; exact ⟨σ', H', I.unwish, q⟩
  | brk => obtain ⟨σ', H', I, q⟩ := h; exact ⟨σ', H', I.unwish, q⟩
  | cont => obtain ⟨σ', H', I, q⟩ := h; exact ⟨σ', H', I.unwish, q⟩
  | ret u => obtain ⟨v, σ', H', I, r, q⟩ := h; exact ⟨v, σ', H', I.unwish, r, q⟩
theorem PSs.nox {st : List Stmt} {t : TS} (h : PSs X.nox st t) : PSs X st t := fun pins s σ H D I hw =>
  wpAny_mono (h pins s σ H D (I.wish _) hw) (fun _ _ q => q.unwish) fun _ _ z => False.elim z
end

/-! ### blocks and small statements -/
section
variable {X : Cx} {st : Stmt} {rest : List Stmt} {t u : TS} {e : Expr} {te : TE} {pos : Pos}
def tNext : TS := fun D σ H => D.nx σ H
def tSeq (t u : TS) : TS := fun D σ H => t { D with nx := u D } σ H
theorem pss_nil : PSs X [] tNext := fun _ _ σ H _ I h => wpAny_execs_nil ⟨σ, H, I, h⟩
theorem pss_cons (h1 : PS X st t) (h2 : PSs X rest u) : PSs X (st :: rest) (tSeq t u) := by
  intro pins s σ H D I h
  refine wpAny_execs_cons (thn (h1 pins s σ H { D with nx := u D } I h) fun f s1 q => ?_)
  cases f with
  | next =>
    obtain ⟨σ', H', I', q⟩ := q
    exact h2 pins s1 σ' H' D I' q
  | ret v => exact q
  | brk => exact q
  | cont => exact q
theorem pss_one (h1 : PS X st t) : PSs X [st] t := by
  intro pins s σ H D I h
  refine wpAny_execs_cons (thn (h1 pins s σ H D I h) fun f s1 q => ?_)
  cases f with
  | next => exact wpAny_execs_nil q
  | ret v => exact q
  | brk => exact q
  | cont => exact q
def tBreak : TS := fun D σ H => D.bk σ H
def tCont : TS := fun D σ H => D.ct σ H
/-- in a def's body nothing is shown -/
theorem Inv.quiet {pins : List (Addr × Obj)} {σ : St} {H : Hp} {s : Shared} (I : Inv X pins σ H s) : interactive X.env = false := by simp [interactive, I.ok.kind]
/-- an expression whose value is dropped -/
def tDrop (te : TE) : TS := fun D σ H => te σ H fun _ H1 => D.nx σ H1
theorem ps_expr (he : PE X e te) (hs : swapsWith e none pos.line X.env = pure false := by rfl) : PS X (.Expr e pos) (tDrop te) := by
  intro pins s σ H D I h
  exact wpAny_Expr_any (thn (he pins s σ H _ I h) fun v s1 ⟨x, H1, I1, r1, q1⟩ => ⟨σ, H1, I1, q1⟩) I.quiet hs
def tRet (te : TE) : TS := fun D σ H => te σ H D.rt
theorem ps_ret (he : PE X e te) : PS X (.Return (some e) pos) (tRet te) := by
  intro pins s σ H D I h
  exact wpAny_Return_some (thn (he pins s σ H _ I h) fun v s1 ⟨x, H1, I1, r1, q1⟩ => ⟨x, σ, H1, I1, r1, q1⟩)
def tRetN : TS := fun D _ H => D.rt .non H
def tIfS (c : TT) (t u : TS) : TS := fun D σ H => c σ H fun b H1 => if b = true then t D σ H1 else u D σ H1
theorem ps_if {c : Expr} {a b : List Stmt} {tc : TT} (hc : PT X c tc) (ha : PSs X a t) (hb : PSs X b u) : PS X (.If c a b pos) (tIfS tc t u) := by
  intro pins s σ H D I h
  refine wpAny_If (thn (hc pins s σ H _ I h) fun d s1 ⟨H1, I1, q1⟩ => ?_)
  cases d with
  | true => exact ha pins s1 σ H1 D I1 q1
  | false => exact hb pins s1 σ H1 D I1 q1
/-- code that the proof never comes to -/
def tNever : TS := fun _ _ _ => False
end

/-! ### targets -/
abbrev TG := V → St → Hp → (St → Hp → Prop) → Prop
abbrev TGs := List V → St → Hp → (St → Hp → Prop) → Prop
def PG (X : Cx) (target : Expr) (t : TG) : Prop :=
  ∀ (pins : List (Addr × Obj)) (s : Shared) (σ : St) (H : Hp) (v : V) (u : Value) (Q : St → Hp → Prop), Inv X pins σ H s → RelV v u → t v σ H Q →
    wpAny (model X.prog X.w) X.A (assign target X.env u) (fun _ s' => ∃ σ' H', Inv X pins σ' H' s' ∧ Q σ' H') X.xe s
/-- several targets, one after another -/
def PGs (X : Cx) (ts : List Expr) (t : TGs) : Prop :=
  ∀ (pins : List (Addr × Obj)) (s : Shared) (σ : St) (H : Hp) (vs : List V) (us : List Value) (Q : St → Hp → Prop), Inv X pins σ H s → Vals vs us → t vs σ H Q →
    wpAny (model X.prog X.w) X.A (assignInOrder ((assignEach ts X.env).map (·.2)) us) (fun _ s' => ∃ σ' H', Inv X pins σ' H' s' ∧ Q σ' H') X.xe s
/-- o[i] = v, by values -/
abbrev TSet := V → V → V → Hp → (Hp → Prop) → Prop
def PSet (X : Cx) (t : TSet) : Prop :=
  ∀ (pins : List (Addr × Obj)) (s : Shared) (σ : St) (H : Hp) (o i v : V) (ov iv u : Value) (Q : Hp → Prop), Inv X pins σ H s → RelV o ov → RelV i iv → RelV v u → t o i v H Q →
    wpAny (model X.prog X.w) X.A (setItem ov iv u) (fun _ s' => ∃ H', Inv X pins σ H' s' ∧ Q H') X.xe s
/-- a op= b, by values -/
abbrev TIp := V → V → Hp → VK → Prop
def PIp (X : Cx) (op : Operator) (t : TIp) : Prop :=
  ∀ (pins : List (Addr × Obj)) (s : Shared) (σ : St) (H : Hp) (x y : V) (v u : Value) (Q : VK), Inv X pins σ H s → RelV x v → RelV y u → t x y H Q →
    wpAny (model X.prog X.w) X.A (inplaceOp op v u) (EP X pins σ Q) X.xe s
section
variable {X : Cx} {pos : Pos}
def gName (i : Nat) : TG := fun v σ H Q => Q (σ.set i (some v)) H
theorem pg_name {i : Nat} {x : Str} (hN : X.N.Nodup) (hi : X.N[i]? = some x) (hx : Loc X.env.scope x) (hf : X.fn x = true ∨ X.env.scope.names.lookup x = some .local := by first | exact .inl rfl | exact .inr rfl | assumption) : PG X (.Name x pos) (gName i) := by
  intro pins s σ H v u Q I r h
  exact wpAny_assign_Name (store_ok I hN hi hx r (fun s' I' => ⟨_, H, I', h⟩) hf)
def gNil : TGs := fun vs σ H Q => vs = [] ∧ Q σ H
def gCons (t : TG) (u : TGs) : TGs := fun vs σ H Q => ∃ v r, vs = v :: r ∧ t v σ H fun σ' H' => u r σ' H' Q
/-- (a, b, ..) = a tuple of that length -/
def gTup (K : PySem.W.Frag) (n : Nat) (t : TGs) : TG := fun v σ H Q => ∃ a xs, v = .ref a ∧ SqT K H a xs ∧ xs.length = n ∧ t xs σ H Q
/-- o[i] = .. -/
def gSub (to ti : TE) (t : TSet) : TG := fun v σ H Q => to σ H fun o H1 => ti σ H1 fun i H2 => t o i v H2 fun H3 => Q σ H3
/-- target = value -/
def tAsg (te : TE) (g : TG) : TS := fun D σ H => te σ H fun x H1 => g x σ H1 D.nx
/-- name = value -/
theorem ps_set {i : Nat} {x : Str} {e : Expr} {te : TE} {pos' : Pos} (hN : X.N.Nodup) (hi : X.N[i]? = some x) (hx : Loc X.env.scope x) (he : PE X e te) (hs : swapsWith e (some (.Name x pos')) pos.line X.env = pure false := by rfl) (hf : X.fn x = true ∨ X.env.scope.names.lookup x = some .local := by first | exact .inl rfl | exact .inr rfl | assumption) :
    PS X (.Assign [.Name x pos'] e pos) (tAsg te (gName i)) := by
  intro pins s σ H D I h
  refine wpAny_Assign_Name (thn (he pins s σ H _ I h) fun v s1 ⟨y, H1, I1, r1, q1⟩ => ?_) hs
  exact store_ok I1 hN hi hx r1 (fun s2 I2 => ⟨_, H1, I2, q1⟩) hf
/-- a, b = x, y with plain local names: stored from the right; the pair itself is not tracked (the opening rows as in PyProof/Rows/TupAssign.lean:23) -/
def tPar (i j : Nat) (ta : TA) : TS := fun D σ H => ta σ H fun vs H1 => ∃ v w, vs = [v, w] ∧ D.nx ((σ.set i (some v)).set j (some w)) H1
/-- name op= e -/
def tAug (i : Nat) (te : TE) (ti : TIp) : TS := fun D σ H => ∃ x, σ[i]? = some (some x) ∧ te σ H fun y H1 => ti x y H1 fun z H2 => D.nx (σ.set i (some z)) H2
/-- o[i] op= e -/
def tAugS (to ti te : TE) (tget : V → V → Hp → VK → Prop) (tip : TIp) (tset : TSet) : TS := fun D σ H => to σ H fun o H1 => ti σ H1 fun i H2 => tget o i H2 fun x H3 => te σ H3 fun y H4 => tip x y H4 fun z H5 => tset o i z H5 fun H6 => D.nx σ H6
/-- o[i], by values -/
def PGet (X : Cx) (t : V → V → Hp → VK → Prop) : Prop :=
  ∀ (pins : List (Addr × Obj)) (s : Shared) (σ : St) (H : Hp) (o i : V) (ov iv : Value) (Q : VK), Inv X pins σ H s → RelV o ov → RelV i iv → t o i H Q →
    wpAny (model X.prog X.w) X.A (getItem ov iv) (EP X pins σ Q) X.xe s
/-- ints -/
def ipI (f : Int → Int → Int) : TIp := fun x y H Q => ∃ i j, x = .int i ∧ y = .int j ∧ Q (.int (f i j)) H
end

/-! ### while -/
section
variable {X : Cx} {pos : Pos}
/-- the invariant W with its measure -/
def tWhile (c : TT) (tb : TS) : TS := fun D σ H => ∃ W : Nat → St → Hp → Prop, (∃ m, W m σ H) ∧ ∀ m σ H, W m σ H →
  c σ H fun b H1 => if b = true then ∃ N : St → Hp → Prop, (∀ σ' H', N σ' H' → ∃ m', m' < m ∧ W m' σ' H') ∧ tb { D with nx := N, ct := N, bk := D.nx } σ H1 else D.nx σ H1
end

/-! ### what a loop or a comprehension walks -/
/-- at turn i: it yields x (the heap may grow), or it stops -/
structure It where
  go : Nat → Hp → Prop
  yld : Nat → Hp → V → Hp → Prop
  stop : Nat → Hp → Prop
/-- the iterator's own objects may turn: they are not the frame's, not pinned, younger than the entry (or a comprehension's own) -/
def FpOk (X : Cx) (pins : List (Addr × Obj)) (H : Hp) (b : Addr) : Prop :=
  H b = none ∧ b ≠ X.env.locals ∧ b ∉ X.fs ∧ (b ∈ X.ex ∨ X.s₀.heap.objs.size ≤ b) ∧ (∀ x c, X.env.cells.lookup x = some c → c ≠ b) ∧ ∀ p ∈ X.pn ++ pins, p.1 ≠ b
theorem Inv.fpOk {X : Cx} {pins : List (Addr × Obj)} {σ : St} {H H' : Hp} {s : Shared} {b : Addr} (I : Inv X pins σ H s) (hb : s.heap.objs.size ≤ b) (hn : H' b = none) : FpOk X pins H' b := by
  refine ⟨hn, Nat.ne_of_gt (Nat.lt_of_lt_of_le I.lt hb), I.nofs hb, .inr (Nat.le_trans I.sz hb), fun x c e z => ?_, fun p hp z => ?_⟩
  · obtain ⟨v, q⟩ := I.cell x c e
    exact absurd (Nat.lt_of_lt_of_le q.lt (by rw [z]; exact hb)) (Nat.lt_irrefl _)
  · exact absurd (Nat.lt_of_lt_of_le (Heap.lt_size (I.pin p hp).1) (by rw [z]; exact hb)) (Nat.lt_irrefl _)
structure Turn (P : Program) (w : World) (K : PySem.W.Frag) (tg : Expr) (J : It) (fp : List Addr) (it : Addr) (tn : Nat → Heap → Prop) : Prop where
  mem : it ∈ fp
  obj : ∀ i h, tn i h → ∀ b ∈ fp, ∃ o, h.get? b = some o ∧ ∀ v, o.data ≠ .cell v
  keep : ∀ i h h', tn i h → (∀ b ∈ fp, ∀ o, h.get? b = some o → h'.get? b = some o) → tn i h'
  item : ∀ (X : Cx), X.prog = P → X.w = w → X.K = K → X.calm = true → ∀ (i : Nat) (pins : List (Addr × Obj)) (s : Shared) (σ : St) (H : Hp) (E : Value → Shared → Prop), Inv X pins σ H s → (∀ b ∈ fp, FpOk X pins H b) → tn i s.heap → J.go i H →
    wpAny (model P w) X.A (pyNext (.ref it)) (fun r s1 => ∃ u, r = some u ∧
      wpAny (model P w) X.A (letOwnedTupleGo tg (.ref it) u) (fun _ s2 => ∃ x H', Inv X pins σ H' s2 ∧ RelV x u ∧ J.yld i H x H' ∧ tn (i + 1) s2.heap ∧ ∀ b ∈ fp, H' b = none) E s1) E s
  done : ∀ (X : Cx), X.prog = P → X.w = w → X.K = K → X.calm = true → ∀ (i : Nat) (pins : List (Addr × Obj)) (s : Shared) (σ : St) (H : Hp) (E : Value → Shared → Prop), Inv X pins σ H s → (∀ b ∈ fp, FpOk X pins H b) → tn i s.heap → J.stop i H →
    wpAny (model P w) X.A (pyNext (.ref it)) (fun r s1 => r = none ∧ Inv X pins σ H s1) E s
  self : ∀ (A : Around) (i : Nat) (s : Shared) (Q : Value → Shared → Prop) (E : Value → Shared → Prop), tn i s.heap → Q (.ref it) s → wpAny (model P w) A (pyIter (.ref it)) Q E s
abbrev TI := St → Hp → (It → Hp → Prop) → Prop
/-- an iterator has come -/
def PIE (X : Cx) (pins : List (Addr × Obj)) (σ : St) (tg : Expr) (R : It → Hp → Prop) (itv : Value) (s2 : Shared) : Prop :=
  ∃ (it : Addr) (fp : List Addr) (tn : Nat → Heap → Prop) (J : It) (H' : Hp), itv = .ref it ∧ Inv X pins σ H' s2 ∧ Turn X.prog X.w X.K tg J fp it tn ∧ tn 0 s2.heap ∧ (∀ b ∈ fp, FpOk X pins H' b) ∧ R J H'
def PI (X : Cx) (tg iter : Expr) (wi : TI) : Prop :=
  ∀ (pins : List (Addr × Obj)) (s : Shared) (σ : St) (H : Hp) (R : It → Hp → Prop), Inv X pins σ H s → wi σ H R →
    wpAny (model X.prog X.w) X.A (eval iter X.env) (fun v s1 => wpAny (model X.prog X.w) X.A (pyIter v) (PIE X pins σ tg R) X.xe s1) X.xe s

/-- the step ahead of the store is nothing for an iterator that keeps no tuple -/
theorem go_of {M : Model} {A : Around} {E : Value → Shared → Prop} {s : Shared} {tg : Expr} {it : Addr} {u : Value} {o : Obj} {n : String} {vs : Array Value} {Q : Unit → Shared → Prop} (ho : s.heap.get? it = some o) (hc : o.cls = .type n) (hd : o.data = .fields vs)
    (hn : ["enumerate", "zip", "dict_itemiterator", "dict_reverseitemiterator", "odict_iterator", "itertools.zip_longest", "itertools.pairwise"].contains n = false) (hQ : Q () s) : wpAny M A (letOwnedTupleGo tg (.ref it) u) Q E s := by
  unfold letOwnedTupleGo
  cases tg <;> first
    | exact wpAny_pure hQ
    | (cases u <;> first
        | exact wpAny_pure hQ
        | (refine wpAny_bind (wpAny_load ho ?_)
           rw [hc, hd]
           show wpAny M A (if (["enumerate", "zip", "dict_itemiterator", "dict_reverseitemiterator", "odict_iterator", "itertools.zip_longest", "itertools.pairwise"].contains n && vs[0]? == some (rawInt _)) = true then _ else _) Q E s
           rw [if_neg (by intro h; rw [hn, Bool.false_and] at h; cases h)]
           exact wpAny_pure hQ))

/-- the list at a, as it stands at each turn (a loop may append to it) -/
def Itl (K : PySem.W.Frag) (a : Addr) : It :=
  ⟨fun i H => ∃ xs x, SqL K H a xs ∧ xs[i]? = some x, fun i H x H' => H' = H ∧ ∀ xs, SqL K H a xs → xs[i]? = some x, fun i H => ∃ xs, SqL K H a xs ∧ xs.length ≤ i⟩
def Itt (K : PySem.W.Frag) (a : Addr) : It :=
  ⟨fun i H => ∃ xs x, SqT K H a xs ∧ xs[i]? = some x, fun i H x H' => H' = H ∧ ∀ xs, SqT K H a xs → xs[i]? = some x, fun i H => ∃ xs, SqT K H a xs ∧ xs.length ≤ i⟩
/-- lo, lo + 1, .. (n of them) -/
def Itr (lo : Int) (n : Nat) : It := ⟨fun i _ => i < n, fun i H x H' => H' = H ∧ x = .int (lo + i), fun i _ => n ≤ i⟩
theorem turn_list {P : Program} {w : World} {K : PySem.W.Frag} {tg : Expr} (a it : Addr) : Turn P w K tg (Itl K a) [it] it (fun i h => h.IsListIter it a i) where
  mem := by simp
  obj := fun i h st b hb => by
    have e : b = it := by simpa using hb
    subst e
    obtain ⟨o, e, c, d⟩ := st
    exact ⟨o, e, fun v z => by rw [d] at z; cases z⟩
  keep := fun i h h' st k => st.at fun o e => k it (by simp) o e
  item := by
    intro X hP hw hK hc i pins s σ H E I hf st hg
    subst hP hw hK
    obtain ⟨xs, x, hq, hx⟩ := hg
    obtain ⟨its, rv, p, hz⟩ := I.list hq
    obtain ⟨u, hu, ru⟩ := rv.get hx
    obtain ⟨f0, f1, f2, f3, f4, f5⟩ := hf it (by simp)
    refine wpAny_pyNext_list_item st p.isList (x := u) (by simpa using hu) fun h' st' sb => ?_
    have I1 : Inv X pins σ H { s with heap := h' } := I.turned (t' := s.toks) (fun b o hb e => (sb.2 b hb).trans e) f0 f1 f3 f4 f5
    obtain ⟨o, e, c, d⟩ := id st'
    exact ⟨u, rfl, go_of (s := { s with heap := h' }) e c d (by decide) ⟨x, H, I1, ru, ⟨rfl, fun ys hy => by rw [I.list_inj hy hq]; exact hx⟩, st', fun b hb => (hf b hb).1⟩⟩
  done := by
    intro X hP hw hK hc i pins s σ H E I hf st hg
    subst hP hw hK
    obtain ⟨xs, hq, hx⟩ := hg
    obtain ⟨its, rv, p, hz⟩ := I.list hq
    obtain ⟨f0, f1, f2, f3, f4, f5⟩ := hf it (by simp)
    have hl := rv.length
    exact wpAny_pyNext_list_end (I.ok.hd hc) st p.isList (by simp; omega) fun h' eb => ⟨rfl, I.turned (t' := s.toks) (fun b o hb e => eb b o hb e) f0 f1 f3 f4 f5⟩
  self := fun _ _ _ _ _ st h => wpAny_pyIter_listiter st h
theorem turn_range {P : Program} {w : World} {K : PySem.W.Frag} {tg : Expr} (it : Addr) (lo : Int) (n : Nat) : Turn P w K tg (Itr lo n) [it] it (fun i h => IsRangeIter h it (lo + (i : Nat) * 1) ((n : Int) - (i : Nat)) 1) where
  mem := by simp
  obj := fun i h st b hb => by
    have e : b = it := by simpa using hb
    subst e
    exact ⟨_, st, fun v z => by
      have z' : Data.fields _ = Data.cell v := z
      cases z'⟩
  keep := fun i h h' st k => k it (by simp) _ st
  item := by
    intro X hP hw hK hc i pins s σ H E I hf st hg
    subst hP hw hK
    obtain ⟨f0, f1, f2, f3, f4, f5⟩ := hf it (by simp)
    have W := Walks.range (prog := X.prog) (w := X.w) (I.ok.hd hc) it lo 1 n
    refine W.item i s _ _ hg st fun v h' tk hv st' kk => ?_
    obtain ⟨t, rfl⟩ := hv
    have I1 : Inv X pins σ H { s with heap := h', toks := tk } := I.turned (fun b o hb e => kk b o (by simpa using hb) e) f0 f1 f3 f4 f5
    refine ⟨_, rfl, go_of (s := { s with heap := h', toks := tk }) (n := "range_iterator") st' rfl rfl (by decide) ⟨.int (lo + i), H, I1, ⟨t, ?_⟩, ⟨rfl, rfl⟩, st', fun b hb => (hf b hb).1⟩⟩
    rw [Int.mul_one]
  done := by
    intro X hP hw hK hc i pins s σ H E I hf st hg
    subst hP hw hK
    obtain ⟨f0, f1, f2, f3, f4, f5⟩ := hf it (by simp)
    exact wpAny_pyNext_range_end (I.ok.hd hc) st (by have : n ≤ i := hg; omega) fun h' eb => ⟨rfl, I.turned (t' := s.toks) (fun b o hb e => eb b o hb e) f0 f1 f3 f4 f5⟩
  self := fun _ _ _ _ _ st h => wpAny_pyIter_rangeiter st h
end L2

namespace L2
open PySem PySem.Spec PyProof.Rows
section
variable {X : Cx} {tg : Expr}
def iList (K : PySem.W.Frag) (tl : TE) : TI := fun σ H R => tl σ H fun x H1 => ∃ a, x = .ref a ∧ (∃ xs, SqL K H1 a xs) ∧ R (Itl K a) H1
def iTup (K : PySem.W.Frag) (tl : TE) : TI := fun σ H R => tl σ H fun x H1 => ∃ a, x = .ref a ∧ (∃ xs, SqT K H1 a xs) ∧ R (Itt K a) H1
theorem pi_list {l : Expr} {tl : TE} (hl : PE X l tl) : PI X tg l (iList X.K tl) := by
  intro pins s σ H R I h
  refine thn (hl pins s σ H _ I h) fun v s1 ⟨x, H1, I1, r1, q1⟩ => ?_
  obtain ⟨a, e, ⟨xs, hq⟩, q⟩ := q1
  subst e
  cases r1
  obtain ⟨its, rv, p, hz⟩ := I1.list hq
  refine wpAny_pyIter_list p.isList ?_
  refine ⟨s1.heap.objs.size, [s1.heap.objs.size], _, _, H1, rfl, I1.kept (t' := s1.toks) fun b o e => Heap.get?_push_of_some _ e, turn_list a _, ⟨_, Heap.get?_push_size _ rfl, rfl, rfl⟩, fun b hb => ?_, q⟩
  have e : b = s1.heap.objs.size := by simpa using hb
  subst e
  exact I1.fpOk (Nat.le_refl _) (I1.hok.fresh (Nat.le_refl _))
/-- a range object just made, walked -/
theorem range_it {pins : List (Addr × Obj)} {σ : St} {H : Hp} {s : Shared} {R : It → Hp → Prop} {E : Value → Shared → Prop} {lo hi : Int} {t u v : Tok} {tk : Nat} (I : Inv X pins σ H s) (h1 : -(2 ^ 62) ≤ lo) (h2 : lo < 2 ^ 62) (h3 : -(2 ^ 62) ≤ hi) (h4 : hi < 2 ^ 62)
    (q : R (Itr lo (hi - lo).toNat) H) : wpAny (model X.prog X.w) X.A (pyIter (.ref s.heap.objs.size)) (PIE X pins σ tg R) E { s with heap := s.heap.push { cls := .type "range", data := .fields #[.int lo t, .int hi u, .int 1 v] }, toks := tk } := by
  refine wpAny_pyIter_range (IsRange.new ..) (small_one h1 h2 h3 h4) ?_
  have I1 : Inv X pins σ H { s with heap := s.heap.push { cls := .type "range", data := .fields #[.int lo t, .int hi u, .int 1 v] }, toks := tk } := I.kept fun b o e => Heap.get?_push_of_some _ e
  refine ⟨(s.heap.push { cls := .type "range", data := .fields #[.int lo t, .int hi u, .int 1 v] }).objs.size, [(s.heap.push { cls := .type "range", data := .fields #[.int lo t, .int hi u, .int 1 v] }).objs.size], _, _, H, rfl,
    I1.kept (t' := tk) fun b o e => Heap.get?_push_of_some _ e, turn_range _ lo (hi - lo).toNat, ?_, fun b hb => ?_, q⟩
  · have e1 : lo + ((0 : Nat) : Int) * 1 = lo := by simp
    have e2 : (((hi - lo).toNat : Nat) : Int) - ((0 : Nat) : Int) = Builtin.Range.rangeSize lo hi 1 := by rw [rangeSize_one]; split <;> omega
    show IsRangeIter _ _ (lo + ((0 : Nat) : Int) * 1) ((((hi - lo).toNat : Nat) : Int) - ((0 : Nat) : Int)) 1
    rw [e1, e2]
    exact Heap.get?_push_size _ rfl
  · have e : b = (s.heap.push { cls := .type "range", data := .fields #[.int lo t, .int hi u, .int 1 v] }).objs.size := by simpa using hb
    subst e
    exact I1.fpOk (Nat.le_refl _) (I1.hok.fresh (Nat.le_refl _))
def iRng1 (ta : TA) : TI := fun σ H R => ta σ H fun vs H1 => ∃ j : Int, vs = [.int j] ∧ -(2 ^ 62) ≤ j ∧ j < 2 ^ 62 ∧ R (Itr 0 j.toNat) H1
def iRng2 (ta : TA) : TI := fun σ H R => ta σ H fun vs H1 => ∃ i j : Int, vs = [.int i, .int j] ∧ (-(2 ^ 62) ≤ i ∧ i < 2 ^ 62 ∧ -(2 ^ 62) ≤ j ∧ j < 2 ^ 62) ∧ R (Itr i (j - i).toNat) H1
theorem pi_range1 {a : Expr} {ta : TA} {p pos : Pos} (hg : Gl X "range") (hm : X.mg "range" = none) (ha : PA X [a] ta) (hs : starEach [a] X.env = [(false, eval a X.env)] := by rfl) : PI X tg (.Call (.Name "range" p) [a] [] pos) (iRng1 ta) := by
  intro pins s σ H R I h
  refine Call_ (ld_blt I hg hm boot_range (PyProof.Rows.callWith_type1 (thn (ha pos pins s σ H _ I h) fun us s1 ⟨vs, H1, I1, r1, q1⟩ => ?_) hs rfl))
  obtain ⟨j, e, q1, q2, q⟩ := q1
  subst e
  cases r1 with
  | cons r rr =>
    cases rr
    obtain ⟨t, rfl⟩ := r
    exact call_range_1 (range_it I1 (by omega) (by omega) q1 q2 (by simpa using q))

/-! ### for -/
/-- W: the invariant by the turn and a measure; N: what the body is to reach -/
def tFor (wi : TI) (g : TG) (tb : TS) : TS := fun D σ H => wi σ H fun J H1 => ∃ W : Nat → Nat → St → Hp → Prop, (∃ m, W 0 m σ H1) ∧ ∀ i m σ H, W i m σ H →
  (J.stop i H ∧ D.nx σ H) ∨ (J.go i H ∧ ∃ N : St → Hp → Prop, (∀ σ' H', N σ' H' → ∃ m', m' < m ∧ W (i + 1) m' σ' H') ∧ ∀ x H', J.yld i H x H' → g x σ H' fun σ2 H2 => tb { D with nx := N, ct := N, bk := D.nx } σ2 H2)
/-- the records at fp as they stand -/
def pinsAt (fp : List Addr) (h : Heap) : List (Addr × Obj) := fp.filterMap fun b => (h.get? b).map fun o => (b, o)
theorem mem_pinsAt {fp : List Addr} {h : Heap} {b : Addr} {o : Obj} (hb : b ∈ fp) (e : h.get? b = some o) : (b, o) ∈ pinsAt fp h := List.mem_filterMap.mpr ⟨b, hb, by rw [e]; rfl⟩
theorem of_pinsAt {fp : List Addr} {h : Heap} {p : Addr × Obj} (hp : p ∈ pinsAt fp h) : p.1 ∈ fp ∧ h.get? p.1 = some p.2 := by
  obtain ⟨b, hb, e⟩ := List.mem_filterMap.mp hp
  cases q : h.get? b with
  | none => rw [q] at e; cases e
  | some o =>
    rw [q] at e
    have e' : (b, o) = p := Option.some.inj e
    subst e'
    exact ⟨hb, q⟩
theorem Inv.pinned {pins : List (Addr × Obj)} {σ : St} {H : Hp} {s : Shared} {fp : List Addr} (I : Inv X pins σ H s) (hf : ∀ b ∈ fp, FpOk X pins H b) (ho : ∀ b ∈ fp, ∃ o, s.heap.get? b = some o ∧ ∀ v, o.data ≠ .cell v) : Inv X (pins ++ pinsAt fp s.heap) σ H s :=
  I.pins_of fun p hp => (List.mem_append.mp hp).elim (fun z => I.pin p (List.mem_append_right _ z)) fun z => by
    obtain ⟨hb, e⟩ := of_pinsAt z
    obtain ⟨f0, f1, f2, _⟩ := hf p.1 hb
    obtain ⟨o, e', d⟩ := ho p.1 hb
    rw [e] at e'; cases e'
    exact ⟨e, f0, f1, f2, d⟩
theorem Inv.unpinned {pins pl : List (Addr × Obj)} {σ : St} {H : Hp} {s : Shared} (I : Inv X (pins ++ pl) σ H s) : Inv X pins σ H s := I.pins_of fun p hp => I.pin p (List.mem_append_right _ (List.mem_append_left _ hp))
theorem ps_for {iter : Expr} {body : List Stmt} {wi : TI} {g : TG} {tb : TS} {pos : Pos} (hp : PassesOwn (model X.prog X.w) X.A X.env X.xe) (hc : X.calm = true) (hi : PI X tg iter wi) (hg : PG X tg g) (hb : PSs X body tb)
    (hs : ∀ x, foldedSetIterable iter X.env x = pure x := by intro _; rfl) : PS X (.For tg iter body [] pos) (tFor wi g tb) := by
  intro pins s σ H D I h
  refine wpAny_For (thn (hi pins s σ H _ I h) fun v s1 h1 => thn h1 fun itv s2 h2 => ?_) hs
  obtain ⟨it, fp, tn, J, H2, e, I2, T, st2, f2, W, ⟨m0, w0⟩, turn⟩ := h2
  subst e
  -- what stays true of the iterator's objects through the loop
  have stat : ∀ {H' : Hp}, (∀ b ∈ fp, H' b = none) → ∀ b ∈ fp, FpOk X pins H' b := fun hn b hb => ⟨hn b hb, (f2 b hb).2⟩
  refine codeAny_forLoop_any (fun n s' => ∃ i σ' H', Inv X pins σ' H' s' ∧ tn i s'.heap ∧ (∀ b ∈ fp, H' b = none) ∧ W i n σ' H') ?_ m0 ⟨0, σ, H2, I2, st2, fun b hb => (f2 b hb).1, w0⟩
  rintro n s3 ⟨i, σ3, H3, I3, st3, fr3, w3⟩
  rcases turn i n σ3 H3 w3 with ⟨stop, qn⟩ | ⟨go, N, hN, step⟩
  · refine wpAny_passesOwn hp (thn (T.done X rfl rfl rfl hc i pins s3 σ3 H3 X.xe I3 (stat fr3) st3 stop) fun r s4 ⟨hr, I4⟩ => ?_)
    subst hr
    exact wpAny_execs_nil ⟨σ3, H3, I4, qn⟩
  · refine wpAny_passesOwn hp (thn (T.item X rfl rfl rfl hc i pins s3 σ3 H3 X.xe I3 (stat fr3) st3 go) fun r s4 ⟨u, hr, h4⟩ => ?_)
    subst hr
    refine wpAny_passesOwn hp (thn h4 fun _ s5 ⟨x, H5, I5, r5, y5, st5, fr5⟩ => ?_)
    have I5' := I5.pinned (stat fr5) (T.obj _ _ st5)
    refine wpAny_passesOwn hp (thn (hg _ s5 σ3 H5 x u _ I5' r5 (step x H5 y5)) fun _ s6 ⟨σ6, H6, I6, q6⟩ => ?_)
    refine wpAny_passesOwn hp (thn (hb _ s6 σ6 H6 _ I6 q6) fun f s7 q7 => ?_)
    have again : ∀ {σ7 : St} {H7 : Hp}, Inv X (pins ++ pinsAt fp s5.heap) σ7 H7 s7 → N σ7 H7 → ∃ m, m < n ∧ ∃ i σ' H', Inv X pins σ' H' s7 ∧ tn i s7.heap ∧ (∀ b ∈ fp, H' b = none) ∧ W i m σ' H' := fun {σ7 H7} I7 n7 => by
      obtain ⟨m', hm, w7⟩ := hN σ7 H7 n7
      refine ⟨m', hm, i + 1, σ7, H7, I7.unpinned, T.keep _ _ _ st5 fun b hb o e => (I7.pin (b, o) (List.mem_append_right _ (List.mem_append_right _ (mem_pinsAt hb e)))).1, fun b hb => ?_, w7⟩
      obtain ⟨o, e, d⟩ := T.obj _ _ st5 b hb
      exact (I7.pin (b, o) (List.mem_append_right _ (List.mem_append_right _ (mem_pinsAt hb e)))).2.1
    cases f with
    | next => obtain ⟨σ7, H7, I7, n7⟩ := q7; exact again I7 n7
    | cont => obtain ⟨σ7, H7, I7, n7⟩ := q7; exact again I7 n7
    | brk => obtain ⟨σ7, H7, I7, q7⟩ := q7; exact ⟨σ7, H7, I7.unpinned, q7⟩
    | ret v => obtain ⟨x7, σ7, H7, I7, r7, q7⟩ := q7; exact ⟨x7, σ7, H7, I7.unpinned, r7, q7⟩
end

/-! ### the forms one uses -/
/-- over a list that the body leaves as it is -/
theorem for_list {K : PySem.W.Frag} {a : Addr} {xs : List V} {g : TG} {tb : TS} {D : Ends} {σ : St} {H : Hp} (Pv : Nat → St → Hp → Prop) (h0 : Pv 0 σ H) (hl : ∀ i σ H, i ≤ xs.length → Pv i σ H → SqL K H a xs)
    (hs : ∀ i x σ H, xs[i]? = some x → Pv i σ H → g x σ H fun σ2 H2 => tb { D with nx := Pv (i + 1), ct := Pv (i + 1), bk := D.nx } σ2 H2) (hd : ∀ σ H, Pv xs.length σ H → D.nx σ H) :
    ∃ W : Nat → Nat → St → Hp → Prop, (∃ m, W 0 m σ H) ∧ ∀ i m σ H, W i m σ H →
      ((Itl K a).stop i H ∧ D.nx σ H) ∨ ((Itl K a).go i H ∧ ∃ N : St → Hp → Prop, (∀ σ' H', N σ' H' → ∃ m', m' < m ∧ W (i + 1) m' σ' H') ∧ ∀ x H', (Itl K a).yld i H x H' → g x σ H' fun σ2 H2 => tb { D with nx := N, ct := N, bk := D.nx } σ2 H2) := by
  refine ⟨fun i m σ H => m = xs.length - i ∧ i ≤ xs.length ∧ Pv i σ H, ⟨xs.length, by simp, Nat.zero_le _, h0⟩, ?_⟩
  rintro i m σ H ⟨rfl, hi, p⟩
  have q := hl i σ H hi p
  by_cases hlt : i < xs.length
  · refine .inr ⟨⟨xs, xs[i], q, by simp [hlt]⟩, Pv (i + 1), fun σ' H' p' => ⟨xs.length - (i + 1), by omega, rfl, hlt, p'⟩, fun x H' y => ?_⟩
    obtain ⟨e, y⟩ := y
    subst e
    exact hs i x σ _ (y xs q) p
  · have e : i = xs.length := by omega
    subst e
    exact .inl ⟨⟨xs, q, Nat.le_refl _⟩, hd σ H p⟩
theorem for_range {lo : Int} {n : Nat} {g : TG} {tb : TS} {D : Ends} {σ : St} {H : Hp} (Pv : Nat → St → Hp → Prop) (h0 : Pv 0 σ H)
    (hs : ∀ i σ H, i < n → Pv i σ H → g (.int (lo + i)) σ H fun σ2 H2 => tb { D with nx := Pv (i + 1), ct := Pv (i + 1), bk := D.nx } σ2 H2) (hd : ∀ σ H, Pv n σ H → D.nx σ H) :
    ∃ W : Nat → Nat → St → Hp → Prop, (∃ m, W 0 m σ H) ∧ ∀ i m σ H, W i m σ H →
      ((Itr lo n).stop i H ∧ D.nx σ H) ∨ ((Itr lo n).go i H ∧ ∃ N : St → Hp → Prop, (∀ σ' H', N σ' H' → ∃ m', m' < m ∧ W (i + 1) m' σ' H') ∧ ∀ x H', (Itr lo n).yld i H x H' → g x σ H' fun σ2 H2 => tb { D with nx := N, ct := N, bk := D.nx } σ2 H2) := by
  refine ⟨fun i m σ H => m = n - i ∧ i ≤ n ∧ Pv i σ H, ⟨n, by simp, Nat.zero_le _, h0⟩, ?_⟩
  rintro i m σ H ⟨rfl, hi, p⟩
  by_cases hlt : i < n
  · refine .inr ⟨hlt, Pv (i + 1), fun σ' H' p' => ⟨n - (i + 1), by omega, rfl, hlt, p'⟩, fun x H' y => ?_⟩
    obtain ⟨e, y⟩ := y
    subst e y
    exact hs i σ _ hlt p
  · have e : i = n := by omega
    subst e
    exact .inl ⟨Nat.le_refl _, hd σ H p⟩
end L2

namespace L2
open PySem PySem.Spec PyProof.Rows

abbrev R2 := V → V → Hp → VK → Prop
/-- a two-place operation on values: f is binaryOp op, inplaceOp op or compareOp op -/
def OpR (X : Cx) (f : Value → Value → Sem Value) (r : R2) : Prop :=
  ∀ (pins : List (Addr × Obj)) (s : Shared) (σ : St) (H : Hp) (x y : V) (v u : Value) (Q : VK), Inv X pins σ H s → RelV x v → RelV y u → r x y H Q →
    wpAny (model X.prog X.w) X.A (f v u) (EP X pins σ Q) X.xe s
/-- a one-place operation -/
def UnR (X : Cx) (f : Value → Sem Value) (r : V → Hp → VK → Prop) : Prop :=
  ∀ (pins : List (Addr × Obj)) (s : Shared) (σ : St) (H : Hp) (x : V) (v : Value) (Q : VK), Inv X pins σ H s → RelV x v → r x H Q →
    wpAny (model X.prog X.w) X.A (f v) (EP X pins σ Q) X.xe s
/-- a call of a value that is known (a builtin, a type) with values -/
def CallR (X : Cx) (f : Value) (r : List V → Hp → VK → Prop) : Prop :=
  ∀ (pins : List (Addr × Obj)) (s : Shared) (σ : St) (H : Hp) (xs : List V) (us : List Value) (Q : VK), Inv X pins σ H s → Vals xs us → r xs H Q →
    wpAny (model X.prog X.w) X.A (call f us) (EP X pins σ Q) X.xe s
/-- a value's truth -/
def TruR (X : Cx) (r : V → Hp → (Bool → Hp → Prop) → Prop) : Prop :=
  ∀ (pins : List (Addr × Obj)) (s : Shared) (σ : St) (H : Hp) (x : V) (v : Value) (Q : Bool → Hp → Prop), Inv X pins σ H s → RelV x v → r x H Q →
    wpAny (model X.prog X.w) X.A (truthy v) (TP X pins σ Q) X.xe s

def tOp (r : R2) (ta tb : TE) : TE := fun σ H Q => ta σ H fun x H1 => tb σ H1 fun y H2 => r x y H2 Q
def tUn (r : V → Hp → VK → Prop) (ta : TE) : TE := fun σ H Q => ta σ H fun x H1 => r x H1 Q
/-- ints in, under C, and a value out -/
def rI (C : Int → Int → Prop) (g : Int → Int → V) : R2 := fun x y H Q => ∃ i j, x = .int i ∧ y = .int j ∧ C i j ∧ Q (g i j) H
def rI0 (g : Int → Int → V) : R2 := fun x y H Q => ∃ i j, x = .int i ∧ y = .int j ∧ Q (g i j) H
def rU (g : Int → V) : V → Hp → VK → Prop := fun x H Q => ∃ i, x = .int i ∧ Q (g i) H

section
variable {X : Cx} {a b c : Expr} {ta tb tc : TE} {pos : Pos}

theorem binT (ha : PE X a ta) (hb : PE X b tb) {pins : List (Addr × Obj)} {s : Shared} {σ : St} {H : Hp} {R : V → V → Hp → Prop} (I : Inv X pins σ H s)
    (h : ta σ H fun x H1 => tb σ H1 fun y H2 => R x y H2) {Q : Value → Shared → Prop} {f : Value → Value → Sem Value}
    (hf : ∀ v u s2 x y H2, Inv X pins σ H2 s2 → RelV x v → RelV y u → R x y H2 → wpAny (model X.prog X.w) X.A (f v u) Q X.xe s2) :
    wpAny (model X.prog X.w) X.A (eval a X.env) (fun v s₁ => wpAny (model X.prog X.w) X.A (eval b X.env) (fun u s₂ => wpAny (model X.prog X.w) X.A (f v u) Q X.xe s₂) X.xe s₁) X.xe s := by
  refine thn (ha pins s σ H _ I h) fun v s1 ⟨x, H1, I1, r1, q1⟩ => ?_
  refine thn (hb pins s1 σ H1 _ I1 q1) fun u s2 ⟨y, H2, I2, r2, q2⟩ => ?_
  exact hf v u s2 x y H2 I2 r1 r2 q2

theorem pe_op {op : Operator} {r : R2} (ho : OpR X (binaryOp op) r) (ha : PE X a ta) (hb : PE X b tb) : PE X (.BinOp a op b pos) (tOp r ta tb) := by
  intro pins s σ H Q I h
  exact wpAny_BinOp (binT ha hb I h fun v u s2 x y H2 I2 rx ry q => ho pins s2 σ H2 x y v u Q I2 rx ry q)
theorem pe_un {op : UnaryOp} {r : V → Hp → VK → Prop} (ho : UnR X (unaryOp op) r) (ha : PE X a ta) : PE X (.UnaryOp op a pos) (tUn r ta) := by
  intro pins s σ H Q I h
  exact UnaryOp_ (thn (ha pins s σ H _ I h) fun v s1 ⟨x, H1, I1, r1, q1⟩ => ho pins s1 σ H1 x v Q I1 r1 q1)

/-! ### ints -/
theorem opI {f : Value → Value → Sem Value} {C : Int → Int → Prop} {g : Int → Int → Int}
    (rule : ∀ (i j : Int) (t u : Tok) (s : Shared) (Q : Value → Shared → Prop) (E : Value → Shared → Prop), C i j → Q (.int (g i j) s.toks) { s with toks := s.toks + 1 } → wpAny (model X.prog X.w) X.A (f (.int i t) (.int j u)) Q E s) :
    OpR X f (rI C fun i j => .int (g i j)) := by
  intro pins s σ H x y v u Q I rx ry h
  obtain ⟨i, j, rfl, rfl, hc, q⟩ := h
  obtain ⟨t, rfl⟩ := rx
  obtain ⟨t', rfl⟩ := ry
  exact rule i j t t' s _ _ hc ⟨.int (g i j), H, I.tok _, ⟨_, rfl⟩, q⟩
theorem opI0 {f : Value → Value → Sem Value} {g : Int → Int → Int}
    (rule : ∀ (i j : Int) (t u : Tok) (s : Shared) (Q : Value → Shared → Prop) (E : Value → Shared → Prop), Q (.int (g i j) s.toks) { s with toks := s.toks + 1 } → wpAny (model X.prog X.w) X.A (f (.int i t) (.int j u)) Q E s) :
    OpR X f (rI0 fun i j => .int (g i j)) := by
  intro pins s σ H x y v u Q I rx ry h
  obtain ⟨i, j, rfl, rfl, q⟩ := h
  obtain ⟨t, rfl⟩ := rx
  obtain ⟨t', rfl⟩ := ry
  exact rule i j t t' s _ _ ⟨.int (g i j), H, I.tok _, ⟨_, rfl⟩, q⟩
theorem opB0 {f : Value → Value → Sem Value} {g : Int → Int → Bool}
    (rule : ∀ (i j : Int) (t u : Tok) (s : Shared) (Q : Value → Shared → Prop) (E : Value → Shared → Prop), Q (.bool (g i j)) s → wpAny (model X.prog X.w) X.A (f (.int i t) (.int j u)) Q E s) :
    OpR X f (rI0 fun i j => .bl (g i j)) := by
  intro pins s σ H x y v u Q I rx ry h
  obtain ⟨i, j, rfl, rfl, q⟩ := h
  obtain ⟨t, rfl⟩ := rx
  obtain ⟨t', rfl⟩ := ry
  exact rule i j t t' s _ _ ⟨.bl (g i j), H, I, rfl, q⟩

def CDiv (i j : Int) : Prop := 0 < j ∧ j < 1073741824
def CDivN (i j : Int) : Prop := j ≠ 0 ∧ j.natAbs < 1073741824
def CPow (i j : Int) : Prop := 0 ≤ j ∧ j ≤ 1000000 ∧ i.natAbs < 2 ^ 64
def CMul (i j : Int) : Prop := (-(2 ^ 64) < i ∧ i < 2 ^ 64) ∨ (-(2 ^ 64) < j ∧ j < 2 ^ 64)
theorem CMul.ok {i j : Int} (h : CMul i j) : IntMulOk i j := by
  rcases h with ⟨h1, h2⟩ | ⟨h1, h2⟩
  · exact .of_left (intBits_le_64 h1 h2)
  · exact .of_right (intBits_le_64 h1 h2)

theorem op_add : OpR X (binaryOp .Add) (rI0 fun i j => .int (i + j)) := opI0 fun _ _ _ _ _ _ _ q => add_int q
theorem op_sub : OpR X (binaryOp .Sub) (rI0 fun i j => .int (i - j)) := opI0 fun _ _ _ _ _ _ _ q => sub_int q
theorem op_mul : OpR X (binaryOp .Mult) (rI CMul fun i j => .int (i * j)) := opI fun _ _ _ _ _ _ _ hc q => mul_int q hc.ok
/-- // by a positive divisor -/
theorem op_fdiv : OpR X (binaryOp .FloorDiv) (rI CDiv fun i j => .int (i / j)) := opI fun i j _ _ _ _ _ hc q => by
  have h1 : (0 : Int) < j := hc.1
  have h2 : j < 1073741824 := hc.2
  exact floordiv_int (by omega) (by rw [Int.fdiv_eq_ediv_of_nonneg i (by omega)]; exact q) (.inl (PyProof.noPylong_small (by omega)))
/-- % by a positive divisor of any size -/
theorem op_mod : OpR X (binaryOp .Mod) (rI (fun _ j => 0 < j) fun i j => .int (i % j)) := opI fun i j _ _ _ _ _ hc q => by
  have h1 : (0 : Int) < j := hc
  exact mod_int' (by omega) (by rw [Int.fmod_eq_emod_of_nonneg i (by omega)]; exact q)


theorem unI {f : Value → Sem Value} {g : Int → Int}
    (rule : ∀ (i : Int) (t : Tok) (s : Shared) (Q : Value → Shared → Prop) (E : Value → Shared → Prop), Q (.int (g i) s.toks) { s with toks := s.toks + 1 } → wpAny (model X.prog X.w) X.A (f (.int i t)) Q E s) :
    UnR X f (rU fun i => .int (g i)) := by
  intro pins s σ H x v Q I rx h
  obtain ⟨i, rfl, q⟩ := h
  obtain ⟨t, rfl⟩ := rx
  exact rule i t s _ _ ⟨.int (g i), H, I.tok _, ⟨_, rfl⟩, q⟩
theorem un_neg : UnR X (unaryOp .USub) (rU fun i => .int (-i)) := unI fun _ _ _ _ _ q => neg_int q

/-! ### bools among ints: n += (a < b) -/
end

/-! ### comparisons -/
/-- the scalars that == tells apart as data does -/
def scal : V → V → Bool
  | .non, .non => true | .non, .int _ => true | .int _, .non => true | .non, .bl _ => true | .bl _, .non => true | .non, .str _ => true | .str _, .non => true
  | .int _, .int _ => true | .bl _, .bl _ => true | .str _, .str _ => true | .byt _, .byt _ => true
  | .int _, .str _ => true | .str _, .int _ => true | .bl _, .str _ => true | .str _, .bl _ => true
  | _, _ => false
def rEq : R2 := fun x y H Q => scal x y = true ∧ Q (.bl (decide (x = y))) H
def rNe : R2 := fun x y H Q => scal x y = true ∧ Q (.bl (!decide (x = y))) H

theorem dec_int {i j : Int} : decide (V.int i = V.int j) = (i == j) := by
  rw [Bool.eq_iff_iff]
  simp
theorem dec_bl {i j : Bool} : decide (V.bl i = V.bl j) = (i == j) := by
  rw [Bool.eq_iff_iff]
  simp
theorem dec_str {i j : Str} : decide (V.str i = V.str j) = (i == j) := by
  rw [Bool.eq_iff_iff]
  simp
theorem dec_byt {i j : Array UInt8} : decide (V.byt i = V.byt j) = (i.toList == j.toList) := by
  rw [Bool.eq_iff_iff]
  cases i
  cases j
  simp

section
variable {X : Cx} {a b c : Expr} {ta tb tc : TE} {pos : Pos}
theorem fin_bl {pins : List (Addr × Obj)} {σ : St} {H : Hp} {s : Shared} {Q : VK} {k k' : Bool} (I : Inv X pins σ H s) (q : Q (.bl k) H) (e : k = k') : EP X pins σ Q (.bool k') s := by
  subst e
  exact ⟨.bl k, H, I, rfl, q⟩
theorem op_eq : OpR X (compareOp .Eq) rEq := by
  intro pins s σ H x y v u Q I rx ry h
  obtain ⟨hs, q⟩ := h
  cases x with
  | non =>
    cases rx
    cases y with
    | non => cases ry; exact PySem.EqNone.eq_none_none (fin_bl I q (by simp))
    | bl j => cases ry; exact PySem.EqNone.eq_none_bool (fin_bl I q (by simp))
    | int j => obtain ⟨t', rfl⟩ := ry; exact PySem.EqNone.eq_none_int (fin_bl I q (by simp))
    | str j => obtain ⟨t', rfl⟩ := ry; exact PySem.EqNone.eq_none_str (fin_bl I q (by simp))
    | _ => exact absurd (show false = true from hs) Bool.false_ne_true
  | bl i =>
    cases rx
    cases y with
    | non => cases ry; exact PySem.EqNone.eq_bool_none (fin_bl I q (by simp))
    | bl j => cases ry; exact eq_bool (fin_bl I q dec_bl)
    | str j => obtain ⟨t', rfl⟩ := ry; exact PySem.EqMixed.eq_bool_str (fin_bl I q (by simp))
    | _ => exact absurd (show false = true from hs) Bool.false_ne_true
  | int i =>
    obtain ⟨t, rfl⟩ := rx
    cases y with
    | non => cases ry; exact PySem.EqNone.eq_int_none (fin_bl I q (by simp))
    | int j => obtain ⟨t', rfl⟩ := ry; exact eq_int (fin_bl I q dec_int)
    | str j => obtain ⟨t', rfl⟩ := ry; exact PySem.EqMixed.eq_int_str (fin_bl I q (by simp))
    | _ => exact absurd (show false = true from hs) Bool.false_ne_true
  | str i =>
    obtain ⟨t, rfl⟩ := rx
    cases y with
    | non => cases ry; exact PySem.EqNone.eq_str_none (fin_bl I q (by simp))
    | bl j => cases ry; exact PySem.EqMixed.eq_str_bool (fin_bl I q (by simp))
    | int j => obtain ⟨t', rfl⟩ := ry; exact PySem.EqMixed.eq_str_int (fin_bl I q (by simp))
    | str j => obtain ⟨t', rfl⟩ := ry; exact eq_str (fin_bl I q dec_str)
    | _ => exact absurd (show false = true from hs) Bool.false_ne_true
  | byt i =>
    obtain ⟨t, rfl⟩ := rx
    cases y with
    | byt j => obtain ⟨t', rfl⟩ := ry; exact PySem.W.eq_bytes (fin_bl I q dec_byt)
    | _ => exact absurd (show false = true from hs) Bool.false_ne_true
  | _ => cases y <;> exact absurd (show false = true from hs) Bool.false_ne_true
theorem op_ne : OpR X (compareOp .NotEq) rNe := by
  intro pins s σ H x y v u Q I rx ry h
  obtain ⟨hs, q⟩ := h
  cases x with
  | non =>
    cases rx
    cases y with
    | non => cases ry; exact PySem.EqNone.ne_none_none (fin_bl I q (by simp))
    | bl j => cases ry; exact PySem.EqNone.ne_none_bool (fin_bl I q (by simp))
    | int j => obtain ⟨t', rfl⟩ := ry; exact PySem.EqNone.ne_none_int (fin_bl I q (by simp))
    | str j => obtain ⟨t', rfl⟩ := ry; exact PySem.EqNone.ne_none_str (fin_bl I q (by simp))
    | _ => exact absurd (show false = true from hs) Bool.false_ne_true
  | bl i =>
    cases rx
    cases y with
    | non => cases ry; exact PySem.EqNone.ne_bool_none (fin_bl I q (by simp))
    | bl j => cases ry; exact ne_bool (fin_bl I q (congrArg not dec_bl))
    | str j => obtain ⟨t', rfl⟩ := ry; exact PySem.EqMixed.ne_bool_str (fin_bl I q (by simp))
    | _ => exact absurd (show false = true from hs) Bool.false_ne_true
  | int i =>
    obtain ⟨t, rfl⟩ := rx
    cases y with
    | non => cases ry; exact PySem.EqNone.ne_int_none (fin_bl I q (by simp))
    | int j => obtain ⟨t', rfl⟩ := ry; exact ne_int (fin_bl I q (congrArg not dec_int))
    | str j => obtain ⟨t', rfl⟩ := ry; exact PySem.EqMixed.ne_int_str (fin_bl I q (by simp))
    | _ => exact absurd (show false = true from hs) Bool.false_ne_true
  | str i =>
    obtain ⟨t, rfl⟩ := rx
    cases y with
    | non => cases ry; exact PySem.EqNone.ne_str_none (fin_bl I q (by simp))
    | bl j => cases ry; exact PySem.EqMixed.ne_str_bool (fin_bl I q (by simp))
    | int j => obtain ⟨t', rfl⟩ := ry; exact PySem.EqMixed.ne_str_int (fin_bl I q (by simp))
    | str j => obtain ⟨t', rfl⟩ := ry; exact ne_str (fin_bl I q (congrArg not dec_str))
    | _ => exact absurd (show false = true from hs) Bool.false_ne_true
  | byt i =>
    obtain ⟨t, rfl⟩ := rx
    cases y with
    | byt j => obtain ⟨t', rfl⟩ := ry; exact PySem.W.ne_bytes (fin_bl I q (congrArg not dec_byt))
    | _ => exact absurd (show false = true from hs) Bool.false_ne_true
  | _ => cases y <;> exact absurd (show false = true from hs) Bool.false_ne_true

theorem op_lt : OpR X (compareOp .Lt) (rI0 fun i j => .bl (decide (i < j))) := opB0 fun _ _ _ _ _ _ _ q => lt_int q
theorem op_ge : OpR X (compareOp .GtE) (rI0 fun i j => .bl (decide (j ≤ i))) := opB0 fun _ _ _ _ _ _ _ q => ge_int q


/-- is, is not of two objects that are tracked lists or instances -/
def isObj : HO → Bool
  | .lst _ => true
  | .ins _ _ _ => true
  | _ => false


theorem nomark (b : Expr) {op : CmpOp} (h : op ≠ .In := by decide) (h2 : op ≠ .NotIn := by decide) : behindInMarks op b = false := by
  have e1 : (op == CmpOp.In) = false := by cases op <;> first | rfl | exact absurd rfl h
  have e2 : (op == CmpOp.NotIn) = false := by cases op <;> first | rfl | exact absurd rfl h2
  cases b <;> simp [behindInMarks, e1, e2]
/-- a comparison as a value; hm: nomark b, or (for in, not in) by with_unfolding_all rfl -/
theorem pe_cmpR {op : CmpOp} {r : R2} (ho : OpR X (compareOp op) r) (ha : PE X a ta) (hb : PE X b tb) (hm : behindInMarks op b = false) : PE X (.Compare a [op] [b] pos) (tOp r ta tb) := by
  intro pins s σ H Q I h
  exact wpAny_Compare1 (binT ha hb I h fun v u s2 x y H2 I2 rx ry q => ho pins s2 σ H2 x y v u Q I2 rx ry q) hm
/-- a reading of a value as a test -/
def tTest (t : TE) : TT := fun σ H Q => t σ H fun x H' => ∃ k, x = .bl k ∧ Q k H'
theorem pt_cmpR {op : CmpOp} {r : R2} (ho : OpR X (compareOp op) r) (ha : PE X a ta) (hb : PE X b tb) (hm : behindInMarks op b = false) : PT X (.Compare a [op] [b] pos) (tTest (tOp r ta tb)) := by
  intro pins s σ H Q I h
  refine wpAny_isTrue_Compare1 (thn (ha pins s σ H _ I h) fun v s1 ⟨x, H1, I1, r1, q1⟩ => thn (hb pins s1 σ H1 _ I1 q1) fun u s2 ⟨y, H2, I2, r2, q2⟩ =>
    thn (ho pins s2 σ H2 x y v u _ I2 r1 r2 q2) fun c s3 ⟨z, H3, I3, r3, k, e, q3⟩ => ?_) hm
  subst e
  cases r3
  exact wpAny_truthy_bool ⟨H3, I3, q3⟩
/-- a op1 b op2 c -/
def tChain (r r' : R2) (ta tb tc : TE) : TE := fun σ H Q => ta σ H fun x H1 => tb σ H1 fun y H2 => r x y H2 fun z H3 => ∃ k, z = .bl k ∧
  (if k = true then tc σ H3 fun w' H4 => r' y w' H4 Q else Q (.bl false) H3)

/-! ### truth -/
/-- a value's truth by the abstract heap -/
def TruV (K : PySem.W.Frag) (x : V) (H : Hp) (k : Bool) : Prop :=
  match x with
  | .non => k = false
  | .bl b => k = b
  | .int i => k = (i != 0)
  | .str y => y.length ≤ sizeLine ∧ k = ((y.length : Int) != 0)
  | .byt y => y.size ≤ sizeLine ∧ k = ((y.size : Int) != 0)
  | .ref p => (∃ xs, SqL K H p xs ∧ k = !xs.isEmpty) ∨ (∃ xs, SqT K H p xs ∧ k = !xs.isEmpty) ∨ ∃ kvs, H p = some (.dK kvs) ∧ k = !kvs.isEmpty
  | _ => False
theorem line63 : (sizeLine : Nat) < 2 ^ 63 := by rw [sizeLine_eq]; decide

/-! ### strs and bytes -/

def PlainIxT (b : Expr) : Prop := ∀ o i, subscripted b false o i = operate [o, i] (getItem o i)

/-! ### scalar builtins, by CallR -/
theorem vals1 {x : V} {us : List Value} (r : Vals [x] us) : ∃ u, us = [u] ∧ RelV x u := by
  cases r with
  | cons r1 r2 => cases r2; exact ⟨_, rfl, r1⟩
theorem vals2 {x y : V} {us : List Value} (r : Vals [x, y] us) : ∃ u w', us = [u, w'] ∧ RelV x u ∧ RelV y w' := by
  cases r with
  | cons r1 r2 =>
    cases r2 with
    | cons r3 r4 => cases r4; exact ⟨_, _, rfl, r1, r3⟩
theorem call_abs : CallR X (.builtin "abs") (fun xs H Q => ∃ i, xs = [.int i] ∧ Q (.int (if i < 0 then -i else i)) H) := by
  intro pins s σ H xs us Q I r h
  obtain ⟨i, rfl, q⟩ := h
  obtain ⟨u, rfl, t, rfl⟩ := vals1 r
  exact call_abs_int fun u tk => ⟨.int (if i < 0 then -i else i), H, I.tok _, ⟨_, rfl⟩, q⟩
theorem call_max2 (hc : X.calm = true) : CallR X (.builtin "max") (fun xs H Q => ∃ i j, xs = [.int i, .int j] ∧ Q (.int (if j > i then j else i)) H) := by
  intro pins s σ H xs us Q I r h
  obtain ⟨i, j, rfl, q⟩ := h
  obtain ⟨u, w', rfl, ⟨t, rfl⟩, ⟨t', rfl⟩⟩ := vals2 r
  refine max_two_ints (I.ok.hd hc) fun h' tk k => ⟨_, H, I.kept k, ?_, q⟩
  by_cases hj : j > i
  · rw [if_pos hj, if_pos hj]; exact ⟨_, rfl⟩
  · rw [if_neg hj, if_neg hj]; exact ⟨_, rfl⟩
theorem call_min2 (hc : X.calm = true) : CallR X (.builtin "min") (fun xs H Q => ∃ i j, xs = [.int i, .int j] ∧ Q (.int (if j < i then j else i)) H) := by
  intro pins s σ H xs us Q I r h
  obtain ⟨i, j, rfl, q⟩ := h
  obtain ⟨u, w', rfl, ⟨t, rfl⟩, ⟨t', rfl⟩⟩ := vals2 r
  refine min_two_ints (I.ok.hd hc) fun h' tk k => ⟨_, H, I.kept k, ?_, q⟩
  by_cases hj : j < i
  · rw [if_pos hj, if_pos hj]; exact ⟨_, rfl⟩
  · rw [if_neg hj, if_neg hj]; exact ⟨_, rfl⟩
/-- len of a str, a bytes, a list, a tuple -/
def LenV (K : PySem.W.Frag) (x : V) (H : Hp) (n : Nat) : Prop :=
  match x with
  | .str y => y.length ≤ sizeLine ∧ n = y.length
  | .byt y => y.size ≤ sizeLine ∧ n = y.size
  | .ref p => (∃ xs, SqL K H p xs ∧ n = xs.length) ∨ ∃ xs, SqT K H p xs ∧ n = xs.length
  | _ => False
end
end L2

namespace L2
open PySem PySem.Spec PyProof.Rows

/-! ### an instance, its attributes a map -/
structure ObjM (h : Heap) (x dx C : Addr) (mA : Str → Option Value) : Prop where
  obj : h.get? x = some (PySem.W.instObj C dx)
  ns : h.Ns1 dx mA
  ne : dx ≠ x

theorem lookIn_ns {h : Heap} {dx : Addr} {mA : Str → Option Value} (n : h.Ns1 dx mA) : ∃ od, h.get? dx = some od ∧ ∀ name, PySem.W.lookIn name od = some (mA name) := by
  obtain ⟨o, es, ep, ho, hd, hk, _, hm⟩ := n
  refine ⟨o, ho, fun name => ?_⟩
  have e := hm name
  unfold nsFind findBy at e
  rw [← Array.find?_toList] at e
  unfold PySem.W.lookIn
  rw [hd]
  dsimp only
  split
  · rename_i y q
    rw [q] at e
    exact congrArg some e
  · rename_i q
    rw [q] at e
    have a : es.toList.any (·.refKey) = false := by
      rw [List.any_eq_false]
      intro y hy
      obtain ⟨z, t, hkey⟩ := hk y (Array.mem_toList_iff.mp hy)
      simp [DictEntry.refKey, hkey]
    have a' : ¬ es.toList.any (·.refKey) = true := by rw [a]; exact Bool.false_ne_true
    rw [if_neg a']
    exact congrArg some e

theorem ObjM.look {h : Heap} {x dx C : Addr} {mA : Str → Option Value} (I : ObjM h x dx C mA) : ∃ od, PySem.W.InstAt h x (PySem.W.instObj C dx) C (some od) ∧ ∀ name, PySem.W.lookIn name od = some (mA name) :=
  let ⟨od, ho, hl⟩ := lookIn_ns I.ns
  ⟨od, ⟨I.obj, rfl, rfl, ho⟩, hl⟩

section
variable {prog : Program} {w : World} {A : Around} {E : Value → Shared → Prop} {s : Shared} {K : PySem.W.Frag} {x dx C f : Addr} {mA : Str → Option Value} {name : Str} {v : Value}





end

/-! ### the attributes as a list of pairs -/
def putF (f : Str) (v : V) : List (Str × V) → List (Str × V)
  | [] => [(f, v)]
  | (g, x) :: r => if g = f then (g, v) :: r else (g, x) :: putF f v r


section
variable {P : Program} {w : World} {H H' : Hp} {h h' : Heap} {a C dx : Addr} {fs fs' : List (Str × V)}
theorem ins_get (hok : HOk P w H h) (e : H a = some (.ins C dx fs)) : ∃ mA, ObjM h a dx C mA ∧ (∀ f, RelO (fs.lookup f) (mA f)) ∧ PySem.Within mA (fs.map (·.1)) ∧ fs.length ≤ 1000 ∧ H dx = some (.own a) := by
  obtain ⟨d, z, ne, ob, mA, n, r, q⟩ := (show ObjOk P w H h a (.ins C dx fs) from hok a _ e)
  exact ⟨mA, ⟨ob, n, ne⟩, r, q, z, d⟩
end

/-! ### what of the text a class must have -/
structure Cls (K : PySem.W.Frag) (C : Addr) : Prop where
  pg : PySem.W.plainGet K C Str.empty = true
  hd : PySem.W.hasDictIn K C = true
  po : PySem.W.plainOver K C = true
  sa : PySem.W.findIn K (.ref C) "__setattr__" = some (some (.builtin "object.__setattr__"))
theorem Cls.get {K : PySem.W.Frag} {C : Addr} (c : Cls K C) (f : Str) : PySem.W.plainGet K C f = true := c.pg
/-- no class of it has the name -/
def NoAttr (K : PySem.W.Frag) (C : Addr) (f : Str) : Prop := PySem.W.findIn K (.ref C) f = some none
/-- a constant of the class -/
structure Con (K : PySem.W.Frag) (C : Addr) (f : Str) (v : V) (u : Value) : Prop where
  at_ : PySem.W.findIn K (.ref C) f = some (some u)
  rel : RelV v u
  get : PySem.W.specialIn K u "__get__" = some none
  cp : PySem.W.copiedNames.contains f = false
/-- a method: a plain def of the class or of one above it -/
structure Meth (K : PySem.W.Frag) (C : Addr) (m : Str) (f : Addr) : Prop where
  at_ : PySem.W.findIn K (.ref C) m = some (some (.ref f))
  fn : PySem.W.isFn K (.ref f) = true
  kp : PySem.W.keepIn K (.ref f) = true

section
variable {X : Cx} {pins : List (Addr × Obj)} {σ : St} {H : Hp} {s : Shared} {a C dx : Addr} {fs : List (Str × V)} {f : Str} {v : V} {A : Around} {E : Value → Shared → Prop}






end

/-! ### readings and rules -/
/-- e.f, an attribute of the instance -/
def tFld (K : PySem.W.Frag) (ta : TE) (f : Str) : TE := fun σ H Q => ta σ H fun x H1 => ∃ a C dx fs v, x = .ref a ∧ H1 a = some (.ins C dx fs) ∧ Cls K C ∧ NoAttr K C f ∧ fs.lookup f = some v ∧ Q v H1
/-- e.f, a constant of the class -/
def tCon (K : PySem.W.Frag) (ta : TE) (f : Str) : TE := fun σ H Q => ta σ H fun x H1 => ∃ a C dx fs v u, x = .ref a ∧ H1 a = some (.ins C dx fs) ∧ Cls K C ∧ Con K C f v u ∧ fs.lookup f = none ∧ Q v H1
/-- e.f = value -/
def sFld (K : PySem.W.Frag) (ta tv : TE) (f : Str) : TS := fun D σ H => tv σ H fun y H1 => ta σ H1 fun x H2 => ∃ a C dx fs, x = .ref a ∧ H2 a = some (.ins C dx fs) ∧ Cls K C ∧ NoAttr K C f ∧ fs.length < 1000 ∧
  D.nx σ (upd H2 a (.ins C dx (putF f y fs)))
/-- an augmented operator on two values -/
def InOp (X : Cx) (op : Operator) (rd : V → V → Hp → VK → Prop) : Prop :=
  ∀ (pins : List (Addr × Obj)) (s : Shared) (σ : St) (H : Hp) (x y : V) (u v : Value) (Q : VK), Inv X pins σ H s → RelV x u → RelV y v → rd x y H Q → wpAny (model X.prog X.w) X.A (inplaceOp op u v) (EP X pins σ Q) X.xe s
/-- e.f op= value -/
def sFldAug (K : PySem.W.Frag) (ta tv : TE) (rd : V → V → Hp → VK → Prop) (f : Str) : TS := fun D σ H => ta σ H fun x H1 => ∃ a C dx fs v, x = .ref a ∧ H1 a = some (.ins C dx fs) ∧ Cls K C ∧ NoAttr K C f ∧ fs.lookup f = some v ∧
  tv σ H1 fun y H2 => rd v y H2 fun z H3 => ∃ dx' fs', H3 a = some (.ins C dx' fs') ∧ fs'.length < 1000 ∧ D.nx σ (upd H3 a (.ins C dx' (putF f z fs')))

section
variable {X : Cx} {o e value : Expr} {f : Str} {pos pos' tpos : Pos} {ta tv : TE}
def rAdd : V → V → Hp → VK → Prop := fun x y H Q => ∃ i j, x = .int i ∧ y = .int j ∧ Q (.int (i + j)) H
def rSub : V → V → Hp → VK → Prop := fun x y H Q => ∃ i j, x = .int i ∧ y = .int j ∧ Q (.int (i - j)) H

end

/-! ### isinstance -/
section
variable {X : Cx} {pins : List (Addr × Obj)} {σ : St} {H : Hp} {s : Shared} {A : Around} {E : Value → Shared → Prop} {Q : Value → Shared → Prop} {c : Value} {b : Bool}
/-- the type of a value, as the fragment's deciders take it; for an instance its class -/
inductive TyOf (K : PySem.W.Frag) (H : Hp) : V → Value → Prop where
  | non : TyOf K H .non (.type "NoneType")
  | bl (x : Bool) : TyOf K H (.bl x) (.type "bool")
  | int (i : Int) : TyOf K H (.int i) (.type "int")
  | str (x : Str) : TyOf K H (.str x) (.type "str")
  | flt (x : UInt64) : TyOf K H (.flt x) (.type "float")
  | lst {a : Addr} {xs : List V} (e : H a = some (.lst xs)) : TyOf K H (.ref a) (.type "list")
  | frz {a : Addr} {o : Obj} {xs : List V} (e : H a = some (.frz o (.lst xs))) : TyOf K H (.ref a) (.type "list")
  | tup {a : Addr} {xs : List V} (e : H a = some (.tup xs)) : TyOf K H (.ref a) (.type "tuple")
  | dK {a : Addr} {kvs : List (Key × V)} (e : H a = some (.dK kvs)) : TyOf K H (.ref a) (.type "dict")
  | dT {a : Addr} {kvs : List (List Key × V)} (e : H a = some (.dT kvs)) : TyOf K H (.ref a) (.type "dict")
  | ins {a C dx : Addr} {fs : List (Str × V)} (e : H a = some (.ins C dx fs)) (cl : Cls K C) (ha : PySem.W.findIn K (.ref C) "__class__" = some (some (.builtin "object.__class__")))
      (hn : PySem.W.specialIn K (.builtin "object.__class__") "__get__" = some (some (.builtin "getset_descriptor.__get__"))) (htk : PySem.W.takesIn K (.builtin "object.__class__") = some true)
      (hm : PySem.W.mroIn K C (.type "object") = some true) : TyOf K H (.ref a) (.ref C)
/-- isinstance(x, c) for one class c, a built-in or an own one: kitOne's answer -/
theorem isinst_ok {x : V} {u t : Value} (I : Inv X pins σ H s) (rx : RelV x u) (ty : TyOf X.K H x t) (e : PySem.W.kitOne X.K t c = some b) (h : ∀ tk, Q (.bool b) { s with toks := tk }) :
    wpAny (model X.prog X.w) A (call (.builtin "isinstance") [u, c]) Q E s := by
  cases ty with
  | non => cases (show u = Value.none from rx); exact PySem.W.kia_one PySem.W.kitx_none I.kIn True.intro e (fun z => nomatch z) h
  | bl y => cases (show u = Value.bool y from rx); exact PySem.W.kia_one PySem.W.kitx_bool I.kIn True.intro e (fun z => nomatch z) h
  | int i => obtain ⟨t, q⟩ := (show ∃ t, u = Value.int i t from rx); cases q; exact PySem.W.kia_one PySem.W.kitx_int I.kIn True.intro e (fun z => nomatch z) h
  | str y => obtain ⟨t, q⟩ := (show ∃ t, u = Value.str y t from rx); cases q; exact PySem.W.kia_one PySem.W.kitx_str I.kIn True.intro e (fun z => nomatch z) h
  | flt y => obtain ⟨t, q⟩ := (show ∃ t, u = Value.float y t from rx); cases q; exact PySem.W.kia_one PySem.W.kitx_float I.kIn True.intro e (fun z => nomatch z) h
  | @lst a xs ea =>
    cases (show u = Value.ref a from rx)
    obtain ⟨_, _, n, _, h1⟩ := (show ObjOk X.prog X.w H s.heap a (.lst xs) from I.hok a _ ea)
    exact PySem.W.kia_one PySem.W.kitx_list I.kIn ⟨_, h1, rfl⟩ e (fun z => nomatch z) h
  | @frz a ob xs ea =>
    cases (show u = Value.ref a from rx)
    obtain ⟨_, _, _, n, _, h1⟩ := (show ObjOk X.prog X.w H s.heap a (.frz ob (.lst xs)) from I.hok a _ ea)
    exact PySem.W.kia_one PySem.W.kitx_list I.kIn ⟨_, h1, rfl⟩ e (fun z => nomatch z) h
  | @tup a xs ea =>
    cases (show u = Value.ref a from rx)
    obtain ⟨_, _, _, p⟩ := (show ObjOk X.prog X.w H s.heap a (.tup xs) from I.hok a _ ea)
    obtain ⟨o, h1, h2, _⟩ := p
    exact PySem.W.kia_one PySem.W.kitx_tuple I.kIn ⟨o, h1, h2⟩ e (fun z => nomatch z) h
  | @dK a kvs ea =>
    cases (show u = Value.ref a from rx)
    obtain ⟨_, _, vs, _, p⟩ := (show ObjOk X.prog X.w H s.heap a (.dK kvs) from I.hok a _ ea)
    obtain ⟨o, es, ep, h1, h2, _⟩ := p
    exact PySem.W.kia_one PySem.W.kitx_dict I.kIn ⟨o, h1, h2.1⟩ e (fun z => nomatch z) h
  | @dT a kvs ea =>
    cases (show u = Value.ref a from rx)
    obtain ⟨_, _, xs, _, o, es, ep, h1, h2, _⟩ := (show ObjOk X.prog X.w H s.heap a (.dT kvs) from I.hok a _ ea)
    exact PySem.W.kia_one PySem.W.kitx_dict I.kIn ⟨o, h1, h2.1⟩ e (fun z => nomatch z) h
  | @ins a C dx fs ea cl ha hn htk hm =>
    cases (show u = Value.ref a from rx)
    obtain ⟨mA, O, _⟩ := ins_get I.hok ea
    obtain ⟨od, J, _⟩ := O.look
    exact PySem.W.kia_one (PySem.W.kitx_own (cl.get _) cl.hd ha hn htk hm) I.kIn J e (fun z => nomatch z) h
end
end L2

namespace L2
open PySem PySem.Spec PyProof.Rows

/-! ### room -/
structure Room (k : Nat) (A : Around) : Prop where
  hd : A.handled = none
  dp : A.depth + 3 * k + 5 < recursionLimit
  un : A.units + 16 * k + 200 < cLine
theorem Room.mono {j k : Nat} {A : Around} (r : Room k A) (h : j ≤ k) : Room j A := ⟨r.hd, by have := r.dp; omega, by have := r.un; omega⟩
theorem Room.deeper {k : Nat} {A : Around} (r : Room (k + 1) A) (env : Env) : Room k (A.deeper env) :=
  ⟨r.hd, by have := r.dp; show A.depth + 1 + 3 * k + 5 < _; omega, by have := r.un; show A.units + 3 + 16 * k + 200 < _; omega⟩
theorem Room.depth {k : Nat} {A : Around} (r : Room k A) : A.depth < recursionLimit := by have := r.dp; omega
theorem Room.units {k : Nat} {A : Around} (r : Room k A) : A.units + 64 < cLine := by have := r.un; omega

/-! ### argument lists and displays -/
def tNil : TA := fun _ H Q => Q [] H
def tCons (ta : TE) (tr : TA) : TA := fun σ H Q => ta σ H fun x H1 => tr σ H1 fun xs H2 => Q (x :: xs) H2
section
variable {X : Cx} {e : Expr} {es : List Expr} {te : TE} {t : TA} {pos : Pos}
theorem pa_nil : PA X [] tNil := fun _ _ _ _ H Q I h => Calls.spliced_nil ⟨[], H, I, .nil, h⟩
theorem pa_cons (ha : PE X e te) (hr : PA X es t) (hs : starEach (e :: es) X.env = (false, eval e X.env) :: starEach es X.env := by rfl) : PA X (e :: es) (tCons te t) := by
  intro pos pins s σ H Q I h
  rw [hs]
  show wpAny _ _ (spliced ((false, eval e X.env) :: backTo pos (starEach es X.env))) _ _ s
  refine Calls.spliced_cons (thn (ha pins s σ H _ I h) fun u s1 ⟨x, H1, I1, r1, q1⟩ => ?_)
  exact thn (hr pos pins s1 σ H1 _ I1 q1) fun us s2 ⟨xs, H2, I2, r2, q2⟩ => ⟨x :: xs, H2, I2, .cons r1 r2, q2⟩

/-- a tuple, a list of written items -/
def tTup (t : TA) : TE := fun σ H Q => t σ H fun xs H1 => xs.length ≤ sizeLine ∧ ∀ p, H1 p = none → Q (.ref p) (upd H1 p (.tup xs))
def tLst (t : TA) : TE := fun σ H Q => t σ H fun xs H1 => xs.length ≤ sizeLine ∧ ∀ p, H1 p = none → Q (.ref p) (upd H1 p (.lst xs))
theorem pe_tup {x1} (h : PA X es t) : PE X (.Tuple es x1 pos) (tTup t) := by
  intro pins s σ H Q I hq
  refine wpAny_Tuple_spliced (thn (h pos pins s σ H _ I hq) fun us s1 ⟨xs, H1, I1, r, z, q⟩ => ⟨by rw [← r.length]; exact z, ?_⟩)
  have hf : H1 s1.heap.objs.size = none := I1.hok.fresh (Nat.le_refl _)
  refine ⟨.ref s1.heap.objs.size, upd H1 s1.heap.objs.size (.tup xs), I1.laid (t' := s1.toks) (fun b u e => Heap.get?_push_of_some _ e) (Nat.le_refl _) ?_, rfl, q _ hf⟩
  exact ⟨z, us, r, ⟨_, Heap.get?_push_size _ rfl, rfl, _, rfl⟩⟩
theorem pe_lst (h : PA X es t) : PE X (.List es pos) (tLst t) := by
  intro pins s σ H Q I hq
  refine wpAny_List_spliced (thn (h pos pins s σ H _ I hq) fun us s1 ⟨xs, H1, I1, r, z, q⟩ => ⟨by rw [← r.length]; exact z, ?_⟩)
  have hf : H1 s1.heap.objs.size = none := I1.hok.fresh (Nat.le_refl _)
  refine ⟨.ref s1.heap.objs.size, upd H1 s1.heap.objs.size (.lst xs), I1.laid (t' := s1.toks) (fun b u e => Heap.get?_push_of_some _ e) (Nat.le_refl _) ?_, rfl, q _ hf⟩
  exact ⟨z, us, 0, r, Heap.get?_push_size _ rfl⟩
end

/-! ### what a def promises -/
/-- a def's promise: the bound arguments in the parameters' order, the heap, the wanted end, the wanted exception -/
abbrev Sp := List V → Hp → VK → XK → Prop
/-- how an exception lies behind a call (file 08 gives it): the callers' frames, abstract heap and state ahead of the call, the wish, the exception, the state -/
abbrev CXT := List Env → Hp → Shared → XK → Value → Shared → Prop

/-- the state at a call -/
structure Env0 (P : Program) (w : World) (K : PySem.W.Frag) (mg : Str → Option Value) (base : Heap) (A : Around) (outer : List Env) (s : Shared) (H : Hp) : Prop where
  frames : A.frames = some outer
  mod : Mod K mg base
  bs : ∀ b o, base.get? b = some o → s.heap.get? b = some o ∧ H b = none
  bsz : base.objs.size ≤ s.heap.objs.size
  funs : s.heap.FunFrames base outer
  frf : ∀ b ∈ frs outer, H b = none
  hok : HOk P w H s.heap
  bare : AllBare s.gens
/-- a call's end -/
def CE (outer : List Env) (P : Program) (w : World) (H : Hp) (s : Shared) (Q : VK) (u : Value) (s' : Shared) : Prop :=
  ∃ v H', s'.os = s.os ∧ AllBare s'.gens ∧ Un (frs outer) [] H H' s.heap s'.heap ∧ HOk P w H' s'.heap ∧ RelV v u ∧ Q v H'
def CR (CX : CXT) (outer : List Env) (P : Program) (w : World) (H : Hp) (s : Shared) (Q : VK) (E : XK) (r : Result) (s' : Shared) : Prop :=
  match r with
  | .ok (.ret u) => CE outer P w H s Q u s'
  | .ok _ => False
  | .error e => CX outer H s E e s'
structure FnOk (P : Program) (w : World) (K : PySem.W.Frag) (mg : Str → Option Value) (base : Heap) (CX : CXT) (k : Nat) (f : Addr) (fd : FuncData) (ps : List Str) (sp : Sp) : Prop where
  len : ∀ vs H Q E, sp vs H Q E → vs.length = ps.length
  run : ∀ (A : Around) (outer : List Env) (s : Shared) (H : Hp) (args : Args) (us : List Value) (vs : List V) (Q : VK) (E : XK), Room k A → Env0 P w K mg base A outer s H → BindsTo s fd args (ps.zip us) → Vals vs us → sp vs H Q E →
    codeAny (model P w) A (.call (.ref f) args) (CR CX outer P w H s Q E) s


section
variable {X : Cx} {pins : List (Addr × Obj)} {σ : St} {H : Hp} {s s' : Shared}
/-- from a body: what a callee wants -/
theorem Inv.env0 (I : Inv X pins σ H s) : Env0 X.prog X.w X.K X.mg X.base X.A X.stack s H :=
  ⟨I.ok.frames, I.ok.mod, I.bs, Nat.le_trans I.ok.bsz I.sz, I.stack, I.stkFree, I.hok, I.bare⟩
/-- behind a call -/
theorem Inv.after {Q : VK} {u : Value} (I : Inv X pins σ H s) (h : CE X.stack X.prog X.w H s Q u s') : EP X pins σ Q u s' := by
  obtain ⟨v, H', os, bare, un, hok, r, q⟩ := h
  obtain ⟨hh, g, d, t, os'⟩ := s'
  obtain rfl : os' = s.os := os
  exact ⟨v, H', I.call (h' := hh) (g' := g) (d' := d) (t' := t) (ch := []) un hok bare (fun b z => absurd z (by simp)), r, q⟩
end

/-! ### calls -/
/-- f(..): the written arguments, then the defaults dvs; E: what is wanted of an exception -/
def tCall (sp : Sp) (dvs : List V) (E : XK) (t : TA) : TE := fun σ H Q => t σ H fun vs H1 => sp (vs ++ dvs) H1 Q E
/-- o.m(..) of an instance of the class at C -/
def tMeth (C : Addr) (m : Str) (sp : Sp) (dvs : List V) (E : XK) (ta : TE) (t : TA) : TE := fun σ H Q => ta σ H fun x H1 => ∃ a dx fs, x = .ref a ∧ H1 a = some (.ins C dx fs) ∧ fs.lookup m = none ∧
  t σ H1 fun vs H2 => sp (x :: (vs ++ dvs)) H2 Q E
/-- C(..): a new instance and its dict, then __init__ -/
def tMake (C : Addr) (sp : Sp) (dvs : List V) (E : XK) (t : TA) : TE := fun σ H Q => t σ H fun vs H1 => ∀ x dx, H1 x = none → H1 dx = none → dx ≠ x →
  sp (.ref x :: (vs ++ dvs)) (upd (upd H1 dx (.own x)) x (.ins C dx [])) (fun v H2 => v = .non ∧ Q (.ref x) H2) E

/-- how the parameters are bound: us the positional arguments, kw the keywords' values by name, ds the defaults that fill up -/
def Binds (K : PySem.W.Frag) (fd : FuncData) (ps : List Str) (ds : List Value) : Prop :=
  ∀ (s : Shared) (us : List Value), K.In s.heap → (us ++ ds).length = ps.length → BindsTo s fd ⟨us, []⟩ (ps.zip (us ++ ds))
/-- every parameter is given -/
theorem Binds.all {K : PySem.W.Frag} {fd : FuncData} {ps : List Str} (h : ∀ us : List Value, us.length = ps.length → bindArgs fd ⟨us, []⟩ = pure (ps.zip us)) : Binds K fd ps [] := fun s us _ hl => by
  rw [List.append_nil] at hl ⊢
  exact .of_eq (h us hl)

/-- an exception of a callee reaches what this body wants of exceptions -/
def Passes (CX : CXT) (X : Cx) (E : XK) : Prop := ∀ (pins : List (Addr × Obj)) (σ : St) (H : Hp) (s : Shared) (e : Value) (s' : Shared), Inv X pins σ H s → CX X.stack H s E e s' → X.xe e s'

section
variable {X : Cx} {CX : CXT} {k : Nat} {f C : Addr} {fd : FuncData} {ps : List Str} {sp : Sp} {dvs : List V} {ds : List Value} {E : XK} {x m : Str} {p pos apos : Pos} {e o : Expr} {es : List Expr} {ta : TE} {t : TA}

/-- the callee runs -/
theorem run_fn {pins : List (Addr × Obj)} {σ : St} {H : Hp} {s : Shared} {Q : VK} {us : List Value} {vs : List V} (F : FnOk X.prog X.w X.K X.mg X.base CX k f fd ps sp) (hr : Room k X.A) (hb : Binds X.K fd ps ds) (hd : Vals dvs ds) (hx : Passes CX X E)
    (I : Inv X pins σ H s) (r : Vals vs us) (h : sp (vs ++ dvs) H Q E) : wpAny (model X.prog X.w) X.A (call (.ref f) us) (EP X pins σ Q) X.xe s := by
  have r2 : Vals (vs ++ dvs) (us ++ ds) := r.append hd
  have hl : (us ++ ds).length = ps.length := by rw [← r2.length]; exact F.len _ _ _ _ h
  refine wpAny_call (codeAny_mono (F.run X.A X.stack s H ⟨us, []⟩ (us ++ ds) (vs ++ dvs) Q E hr I.env0 (hb s us I.kIn hl) r2 h) fun r s' hq => ?_)
  cases r with
  | error e => exact hx pins σ H s e s' I hq
  | ok fl =>
    cases fl with
    | ret u => exact I.after hq
    | next => exact False.elim hq
    | brk => exact False.elim hq
    | cont => exact False.elim hq

theorem pe_call (F : FnOk X.prog X.w X.K X.mg X.base CX k f fd ps sp) (hr : Room k X.A) (hg : Gl X x) (hm : X.mg x = some (.ref f)) (hk : PySem.W.keepIn X.K (.ref f) = true) (hb : Binds X.K fd ps ds) (hd : Vals dvs ds) (hx : Passes CX X E)
    (ha : PA X (e :: es) t) (hdb : (x == ("__debug__" : Str)) = false := by decide) (he : starEach (e :: es) X.env = (false, eval e X.env) :: starEach es X.env := by rfl) (hpl : (backTo pos (starEach es X.env)).any (·.1) = false := by rfl) :
    PE X (.Call (.Name x p) (e :: es) [] pos) (tCall sp dvs E t) := by
  intro pins s σ H Q I h
  refine wpAny_Call_Name_kw (ld_glob I hg hm ?_ hdb)
  refine PySem.W.callWith_K (h₀ := X.base) I.ok.mod.kin hk (thn (ha pos pins s σ H _ I h) fun us s1 ⟨vs, H1, I1, r, q⟩ => ⟨I1.kIn, ?_⟩) he hpl
  exact run_fn F hr hb hd hx I1 r q


/-- what a class must have to be made -/
structure Mk (K : PySem.W.Frag) (C f : Addr) : Prop where
  makes : PySem.W.makesIn K C = true
  init : PySem.W.findIn K (.ref C) "__init__" = some (some (.ref f))
  fn : PySem.W.isFn K (.ref f) = true
  kp : PySem.W.keepIn K (.ref C) = true

end

/-! ### keywords -/
/-- the values of the keywords, from the left -/
def PK (X : Cx) (kws : List Keyword) (t : TA) : Prop :=
  ∀ (pos : Pos) (pins : List (Addr × Obj)) (s : Shared) (σ : St) (H : Hp) (Q : List V → Hp → Prop), Inv X pins σ H s → t σ H Q → wpAny (model X.prog X.w) X.A (evalAll ((backToKw pos (keywordEach kws X.env)).map (·.2))) (AP X pins σ Q) X.xe s
section
variable {X : Cx} {CX : CXT} {k : Nat} {f C : Addr} {fd : FuncData} {ps ks : List Str} {sp : Sp} {E : XK} {x m : Str} {p pos apos kpos : Pos} {e o : Expr} {es : List Expr} {kws : List Keyword} {te ta : TE} {t tk : TA} {nm : Option Str}

/-- how a call with keywords binds: g puts the positional values us and the keywords' values ws (names ks) in the parameters' order, defaults among them -/
structure KBinds (K : PySem.W.Frag) (fd : FuncData) (ps ks : List Str) (g : List Value → List Value → List Value) (gV : List V → List V → List V) : Prop where
  to : ∀ (s : Shared) (us ws : List Value), K.In s.heap → (g us ws).length = ps.length → BindsTo s fd ⟨us, ks.zip ws⟩ (ps.zip (g us ws))
  rel : ∀ {vs : List V} {us : List Value} {zs : List V} {ws : List Value}, Vals vs us → Vals zs ws → Vals (gV vs zs) (g us ws)
def tCallK (sp : Sp) (gV : List V → List V → List V) (E : XK) (t tk : TA) : TE := fun σ H Q => t σ H fun vs H1 => tk σ H1 fun zs H2 => sp (gV vs zs) H2 Q E
variable {g : List Value → List Value → List Value} {gV : List V → List V → List V}
end

/-! ### a def's body keeps its promise -/
/-- names: the parameters first -/
structure FnScope (N P : List Str) (sc : Scope) : Prop where
  kind : sc.kind = .function
  co : sc.isCoroutine = false
  gen : sc.isGenerator = false
  nd : N.Nodup
  pre : N.take P.length = P
  par : ∀ x ∈ P, sc.names.lookup x = some .local ∨ sc.names.lookup x = some .cell
  nofree : ∀ y ∈ sc.names, y.2 ≠ .free

theorem bindL_out {kindOf : Str → Option NameKind} {x : Str} : ∀ {binds : List (Str × Value)} {m : Str → Option Value}, (∀ v, (x, v) ∉ binds) → bindL kindOf binds m x = m x
  | [], _, _ => rfl
  | (n, v) :: r, m, h => by
    unfold bindL
    rw [bindL_out fun w hw => h w (List.mem_cons_of_mem _ hw)]
    split
    · have : x ≠ n := by rintro rfl; exact h v List.mem_cons_self
      simp [this]
    · rfl
theorem bindC_out {kindOf : Str → Option NameKind} {x : Str} : ∀ {binds : List (Str × Value)} {m : Str → Option Value}, (∀ v, (x, v) ∉ binds) → bindC kindOf binds m x = m x
  | [], _, _ => rfl
  | (n, v) :: r, m, h => by
    unfold bindC
    rw [bindC_out fun w hw => h w (List.mem_cons_of_mem _ hw)]
    split
    · rfl
    · have : x ≠ n := by rintro rfl; exact h v List.mem_cons_self
      simp [this]
theorem bindL_get {kindOf : Str → Option NameKind} {x : Str} {v : Value} : ∀ {P : List Str} {vs : List Value} {i : Nat} {m : Str → Option Value}, P.Nodup → P[i]? = some x → vs[i]? = some v → kindOf x = some .local →
    bindL kindOf (P.zip vs) m x = some v
  | [], _, _, _, _, h, _, _ => by simp at h
  | _ :: _, [], _, _, _, _, h, _ => by simp at h
  | p :: P, w :: vs, 0, m, nd, h1, h2, hk => by
    simp at h1 h2; subst h1; subst h2
    show bindL kindOf ((p, w) :: P.zip vs) m p = _
    unfold bindL
    rw [bindL_out fun v hv => (List.nodup_cons.mp nd).1 (List.of_mem_zip hv).1, if_pos hk]
    simp
  | p :: P, w :: vs, i + 1, m, nd, h1, h2, hk => by
    show bindL kindOf ((p, w) :: P.zip vs) m x = _
    unfold bindL
    exact bindL_get (i := i) (List.nodup_cons.mp nd).2 (by simpa using h1) (by simpa using h2) hk
theorem bindC_get {kindOf : Str → Option NameKind} {x : Str} {v : Value} : ∀ {P : List Str} {vs : List Value} {i : Nat} {m : Str → Option Value}, P.Nodup → P[i]? = some x → vs[i]? = some v → kindOf x ≠ some .local →
    bindC kindOf (P.zip vs) m x = some v
  | [], _, _, _, _, h, _, _ => by simp at h
  | _ :: _, [], _, _, _, _, h, _ => by simp at h
  | p :: P, w :: vs, 0, m, nd, h1, h2, hk => by
    simp at h1 h2; subst h1; subst h2
    show bindC kindOf ((p, w) :: P.zip vs) m p = _
    unfold bindC
    rw [bindC_out fun v hv => (List.nodup_cons.mp nd).1 (List.of_mem_zip hv).1, if_neg hk]
    simp
  | p :: P, w :: vs, i + 1, m, nd, h1, h2, hk => by
    show bindC kindOf ((p, w) :: P.zip vs) m x = _
    unfold bindC
    exact bindC_get (i := i) (List.nodup_cons.mp nd).2 (by simpa using h1) (by simpa using h2) hk

/-- the names' values at the entry -/
def start (N : List Str) (vs : List V) : St := vs.map some ++ List.replicate (N.length - vs.length) none

/-- the context of a def's body, at its entry; an exception leaves the frame, then lies as CX says -/
def cxOf (CX : CXT) (P : Program) (w : World) (K : PySem.W.Frag) (mg : Str → Option Value) (base : Heap) (N : List Str) (qual : Str) (scope : Scope) (f : Addr) (cd : Value) (A : Around) (outer : List Env) (s : Shared) (H : Hp) (E : XK) : Cx where
  prog := P
  w := w
  K := K
  mg := mg
  base := base
  A := A.deeper (envOfC qual scope s.heap.objs.size f cd)
  N := N
  s₀ := s
  H₀ := H
  env := envOfC qual scope s.heap.objs.size f cd
  outer := outer
  stack := envOfC qual scope s.heap.objs.size f cd :: outer
  ex := []
  calm := true
  fn := fun _ => true
  pn := []
  xe := fun e s' => wpAny (model P w) (A.deeper (envOfC qual scope s.heap.objs.size f cd)) (leaving (envOfC qual scope s.heap.objs.size f cd) e) (fun _ s'' => CX outer H s E e s'') (fun e' s'' => CX outer H s E e' s'') s'

theorem cell_has {sc : Scope} {n : Nat} {x : Str} (h : sc.names.lookup x = some .cell) : ∃ c, (cellsFrom n sc.names []).lookup x = some c := by
  have q := PySem.W.cellsFrom_some sc.names n [] (.inl h)
  exact Option.isSome_iff_exists.mp q

theorem inv_start {CX : CXT} {P : Program} {w : World} {K : PySem.W.Frag} {mg : Str → Option Value} {base : Heap} {N ps : List Str} {qual : Str} {scope : Scope} {f : Addr} {cd : Value} {A : Around} {outer : List Env} {s s1 : Shared} {H : Hp} {E : XK} {us : List Value} {vs : List V}
    (S : FnScope N ps scope) (hd : A.handled = none) (e0 : Env0 P w K mg base A outer s H) (hl : vs.length = ps.length) (r : Vals vs us)
    (x : InCallC s s.heap.objs.size (bindL (envOfC qual scope s.heap.objs.size f cd).kindOf (ps.zip us) fun _ => none) (cellsFrom (s.heap.objs.size + 1) scope.names []) (bindC (envOfC qual scope s.heap.objs.size f cd).kindOf (ps.zip us) fun _ => none) s1) :
    Inv (cxOf CX P w K mg base N qual scope f cd A outer s H E) [] (start N vs) H s1 := by
  have hpl : ps.length ≤ N.length := by have := congrArg List.length S.pre; rw [List.length_take] at this; omega
  obtain ⟨h1, tk, rfl, hk⟩ := x.done
  have noA : ∀ b : Addr, b ∉ (cxOf CX P w K mg base N qual scope f cd A outer s H E).ex := fun b z => absurd (show b ∈ ([] : List Addr) from z) (by simp)
  refine ⟨⟨e0.mod, S.kind, rfl, rfl, Nat.le_refl _, fun y z c h1 h2 => ?_, fun y hy => ?_, fun y c _ h => ?_, fun _ => hd, Around.frames_deeper e0.frames, .inr ⟨rfl, rfl⟩, fun b z => absurd z (noA b), e0.bs, e0.bsz, fun b _ _ => noA b, fun b z => absurd z (noA b), e0.funs, e0.frf⟩,
    rfl, e0.bare, Un.kept hk, ⟨_, x.toInCall.ns, fun i y v h1 h2 h3 => ?_⟩, fun y c h => ⟨_, x.cell y c h⟩, e0.hok.fresh (Nat.le_refl _), fun y c h => ?_, fun p hp => absurd (show p ∈ ([] : List (Addr × Obj)) from hp) (by simp), e0.hok.kept hk, ?_⟩
  · exact name_of_addr x.apart (PySem.mem_of_lookup h1) (PySem.mem_of_lookup h2)
  · have hy : scope.names.lookup y = some .cell ∨ scope.names.lookup y = some .free := hy
    rcases hy with hy | hy
    · exact cell_has hy
    · exact absurd rfl (S.nofree _ (PySem.mem_of_lookup hy))
  · exact Nat.le_of_lt (x.above y c (PySem.mem_of_lookup h))
  · have hi : i < vs.length := by
      unfold start at h2
      by_cases hi : i < vs.length
      · exact hi
      · rw [List.getElem?_append_right (by simpa using hi)] at h2
        rw [List.getElem?_replicate] at h2
        split at h2 <;> cases h2
    have ha : vs[i]? = some v := by
      unfold start at h2
      rw [List.getElem?_append_left (by simpa using hi), List.getElem?_map] at h2
      cases e : vs[i]? with
      | none => rw [e] at h2; cases h2
      | some a => rw [e] at h2; cases h2; rfl
    obtain ⟨u, hu, rv⟩ := r.get ha
    have hp : ps[i]? = some y := by
      rw [← S.pre, List.getElem?_take_of_lt (by omega)]; exact h1
    have ndP : ps.Nodup := by rw [← S.pre]; exact S.nd.sublist (List.take_sublist _ _)
    refine ⟨u, rv, ?_⟩
    rcases S.par y (List.mem_of_getElem? hp) with k | k
    · exact .inl ⟨k, bindL_get ndP hp hu k⟩
    · obtain ⟨c, e⟩ := cell_has (n := s.heap.objs.size + 1) k
      refine .inr ⟨.inl k, c, e, ?_⟩
      have q := x.cell y c e
      rw [bindC_get ndP hp hu (by show scope.names.lookup y ≠ _; rw [k]; decide)] at q
      exact q
  · exact e0.hok.fresh (Nat.le_of_lt (x.above y c (PySem.mem_of_lookup h)))
  · unfold start
    show _ = N.length
    rw [List.length_append, List.length_map, List.length_replicate]
    omega

/-- THE RULE: a def (or a method) of the text, by its body. The body's reading t is chosen for each entry; it is run at the parameters' values -/
theorem fn_of {CX : CXT} {P : Program} {w : World} {K : PySem.W.Frag} {mg : Str → Option Value} {base : Heap} {k : Nat} {f : Addr} {name qual : Str} {params : Arguments} {body : List Stmt} {scope : Scope} {dV kV doc pm cdv ct oc : Value} {an od : Option Addr}
    {osl : Array (Option Value)} {N ps : List Str} {sp : Sp} (lk : K.lookup f = some ⟨oc, od, .func (PySem.W.fnOf name qual params body scope dV kV doc pm an cdv ct), osl⟩) (hcd : PySem.W.codeIn K cdv qual = true) (S : FnScope N ps scope)
    (len : ∀ vs H Q E, sp vs H Q E → vs.length = ps.length)
    (hbody : ∀ (A : Around) (outer : List Env) (s : Shared) (H : Hp) (vs : List V) (Q : VK) (E : XK), Room k (A.deeper (envOfC qual scope s.heap.objs.size f cdv)) → sp vs H Q E →
      ∃ t, PSs (cxOf CX P w K mg base N qual scope f cdv A outer s H E) body t ∧ t { nx := fun _ H' => Q .non H', rt := Q } (start N vs) H) :
    FnOk P w K mg base CX (k + 1) f (PySem.W.fnOf name qual params body scope dV kV doc pm an cdv ct) ps sp := by
  refine ⟨len, fun A outer s H args us vs Q E hr e0 hb r hsp => ?_⟩
  have hl := len _ _ _ _ hsp
  have KX : K.In s.heap := e0.mod.kin.keeps fun b o e => (e0.bs b o e).1
  have lim : s.heap.NoLimit := e0.mod.nolimit.keeps fun b o e => (e0.bs b o e).1
  have hkind : ∀ y ∈ ps.zip us, scope.names.lookup y.1 = some .local ∨ (scope.names.lookup y.1 = some .cell ∧ ((cellsFrom (s.heap.objs.size + 1) scope.names []).lookup y.1).isSome = true) := fun ⟨n, v⟩ hy => by
    rcases S.par n (List.of_mem_zip hy).1 with q | q
    · exact .inl q
    · exact .inr ⟨q, PySem.W.cellsFrom_some _ _ _ (.inl q)⟩
  refine codeAny_call_function hr.depth (KX _ _ lk) rfl S.co S.gen rfl (PySem.W.codeRec_of KX hcd) (hb _ _ _ _ ?_)
  refine wpAny_newFunctionEnv_cells S.kind hkind fun env he s1 x => ?_
  subst he
  refine ⟨lim.keeps x.toInCall.keep, codeAny_func ?_⟩
  obtain ⟨t, ht, hq⟩ := hbody A outer s H vs Q E (hr.deeper _) hsp
  have I : Inv (cxOf CX P w K mg base N qual scope f cdv A outer s H E) [] (start N vs) H s1 := inv_start S hr.hd e0 hl r x
  refine wpAny_mono (ht [] s1 (start N vs) H _ I hq) (fun fl s' hs => ?_) fun e s' hs => hs
  have fin : ∀ {σ' : St} {H' : Hp} {v : V} {u : Value}, Inv (cxOf CX P w K mg base N qual scope f cdv A outer s H E) [] σ' H' s' → RelV v u → Q v H' → CE outer P w H s Q u s' :=
    fun {σ' H' v u} J rv q => ⟨v, H', J.os, J.bare, J.base, J.hok, rv, q⟩
  cases fl with
  | ret u =>
    obtain ⟨v, σ', H', J, rv, q⟩ := hs
    exact fin J rv q
  | next =>
    obtain ⟨σ', H', J, q⟩ := hs
    exact fin (v := V.non) (u := Value.none) J rfl q
  | brk =>
    obtain ⟨_, _, _, q⟩ := hs
    exact False.elim q
  | cont =>
    obtain ⟨_, _, _, q⟩ := hs
    exact False.elim q
end L2

namespace L2
open PySem PySem.Spec PyProof.Rows
section
variable {X : Cx} {x : Str} {p pos : Pos} {e : Expr} {es : List Expr} {t : TA} {id T : String} {r : List V → Hp → VK → Prop}

def tCB (r : List V → Hp → VK → Prop) (t : TA) : TE := fun σ H Q => t σ H fun vs H1 => r vs H1 Q
/-- f(e, ..), f a built-in function -/
theorem pe_callB (hc : CallR X (.builtin id) r) (hg : Gl X x) (hm : X.mg x = none) (hv : bootBuiltins x = some (.builtin id)) (ha : PA X (e :: es) t) (hn : x ≠ "__name__" := by decide) (hdb : (x == ("__debug__" : Str)) = false := by decide)
    (he : starEach (e :: es) X.env = (false, eval e X.env) :: starEach es X.env := by rfl) (hpl : (backTo pos (starEach es X.env)).any (·.1) = false := by rfl) : PE X (.Call (.Name x p) (e :: es) [] pos) (tCB r t) := by
  intro pins s σ H Q I h
  refine wpAny_Call_Name_kw (ld_blt I hg hm hv ?_ hn hdb)
  exact PyProof.Rows.callWith_builtin1 (thn (ha pos pins s σ H _ I h) fun us s1 ⟨vs, H1, I1, r1, q1⟩ => hc pins s1 σ H1 vs us Q I1 r1 q1) he hpl
/-- T(e, ..), T a built-in type -/
theorem pe_callTy (hc : CallR X (.type T) r) (hg : Gl X x) (hm : X.mg x = none) (hv : bootBuiltins x = some (.type T)) (ha : PA X (e :: es) t) (hn : x ≠ "__name__" := by decide) (hdb : (x == ("__debug__" : Str)) = false := by decide)
    (he : starEach (e :: es) X.env = (false, eval e X.env) :: starEach es X.env := by rfl) (hpl : (backTo pos (starEach es X.env)).any (·.1) = false := by rfl) : PE X (.Call (.Name x p) (e :: es) [] pos) (tCB r t) := by
  intro pins s σ H Q I h
  refine wpAny_Call_Name_kw (ld_blt I hg hm hv ?_ hn hdb)
  exact PyProof.Rows.callWith_type1 (thn (ha pos pins s σ H _ I h) fun us s1 ⟨vs, H1, I1, r1, q1⟩ => hc pins s1 σ H1 vs us Q I1 r1 q1) he hpl
end
end L2

namespace HT
open PySem PyProof.Rows

/-- t < u of tuples of ints -/
def lexLt : List Int → List Int → Bool
  | [], [] => false
  | [], _ :: _ => true
  | _ :: _, [] => false
  | x :: xs, y :: ys => if x = y then lexLt xs ys else decide (x < y)
theorem lexLt_cons (x y : Int) (xs ys : List Int) : lexLt (x :: xs) (y :: ys) = if x = y then lexLt xs ys else decide (x < y) := rfl
theorem lexLt_nil_nil : lexLt [] [] = false := rfl
theorem lexLt_nil_cons (y : Int) (ys : List Int) : lexLt [] (y :: ys) = true := rfl
theorem lexLt_cons_nil (x : Int) (xs : List Int) : lexLt (x :: xs) [] = false := rfl


section
open PySem.SeqAt
open PySem.AutoSeq1 (wpAny_loadPart')
open PySem.MeetsSeq PySem.MeetsSeq2 PySem.MeetsSeq3

end

section
variable {prog : Program} {w : World} {A : Around} {E : Value → Shared → Prop} {s : Shared}



/-! ### t[a:b], not the whole -/
/-- a slice's bound as a place among n (d where it is left out) -/
def sIx (n d : Nat) : Option Int → Nat
  | none => d
  | some v => if v < 0 then (v + (n : Int)).toNat else min v.toNat n

end
end HT

namespace L2
open PySem PySem.Spec PyProof.Rows

/-! ### the parts of a slice -/
abbrev TO := St → Hp → (Option Int → Hp → Prop) → Prop
/-- a slice's part (left out, or an int) -/
def PO (X : Cx) (e : Option Expr) (t : TO) : Prop :=
  ∀ (pins : List (Addr × Obj)) (s : Shared) (σ : St) (H : Hp) (Q : Option Int → Hp → Prop), Inv X pins σ H s → t σ H Q →
    wpAny (model X.prog X.w) X.A (evalPart e X.env) (fun u s' => ∃ o H', Inv X pins σ H' s' ∧ IsPart u o ∧ Q o H') X.xe s
def tNoPart : TO := fun _ H Q => Q none H
def tPart (t : TE) : TO := fun σ H Q => t σ H fun x H1 => ∃ i, x = .int i ∧ Q (some i) H1

theorem intsAre_of {ns : List Int} : ∀ {us : List Value}, Vals (ns.map V.int) us → IntsAre us ns := by
  induction ns with
  | nil => intro us r; rw [List.map_nil] at r; cases r; exact .nil
  | cons n ns ih =>
    intro us r
    rw [List.map_cons] at r
    cases r with
    | cons r1 r2 =>
      obtain ⟨t, e⟩ := r1
      subst e
      exact .cons n t (ih r2)

section
variable {X : Cx} {e : Expr} {te : TE} {lo hi : Option Expr} {tl th : TO} {pos p2 : Pos}

theorem po_none : PO X none tNoPart := by
  intro pins s σ H Q I h
  rw [evalPart_none]
  exact wpAny_pure ⟨none, H, I, .none, h⟩
theorem po_some (h : PE X e te) : PO X (some e) (tPart te) := by
  intro pins s σ H Q I hw
  rw [evalPart_some]
  refine thn (h pins s σ H _ I hw) fun u s1 ⟨x, H1, I1, r1, q1⟩ => ?_
  obtain ⟨i, rfl, q⟩ := q1
  obtain ⟨t, rfl⟩ := r1
  exact ⟨some i, H1, I1, .int i t, q⟩

/-- what a slice of a value is, by values: the slice object stands at sl -/
def SlR (X : Cx) (r : V → Option Int → Option Int → Hp → VK → Prop) : Prop :=
  ∀ (pins : List (Addr × Obj)) (s : Shared) (σ : St) (H : Hp) (x : V) (v vl vu : Value) (lo hi : Option Int) (sl : Addr) (Q : VK), Inv X pins σ H s → RelV x v → s.heap.IsSliceOf sl vl vu .none → IsPart vl lo → IsPart vu hi → r x lo hi H Q →
    ∃ T id, typeLookup (.type T) "__getitem__" = pure (some (.builtin id)) ∧ s.TypeIs v T ∧ wpAny (model X.prog X.w) X.A (getItem v (.ref sl)) (EP X pins σ Q) X.xe s
def tSl (r : V → Option Int → Option Int → Hp → VK → Prop) (te : TE) (tl th : TO) : TE := fun σ H Q => te σ H fun x H1 => tl σ H1 fun l H2 => th σ H2 fun u H3 => r x l u H3 Q
/-- a[lo:hi], any a -/
theorem pe_slice {r : V → Option Int → Option Int → Hp → VK → Prop} (hr : SlR X r) (he : PE X e te) (hl : PO X lo tl) (hu : PO X hi th) : PE X (.Subscript e (.Slice lo hi none p2) pos) (tSl r te tl th) := by
  intro pins s σ H Q I h
  refine Subscript_ (thn (he pins s σ H _ I h) fun v s1 ⟨x, H1, I1, r1, q1⟩ => ?_)
  refine wpAny_Slice (thn (hl pins s1 σ H1 _ I1 q1) fun vl s2 ⟨l, H2, I2, pl, q2⟩ => thn (hu pins s2 σ H2 _ I2 q2) fun vu s3 ⟨u, H3, I3, pu, q3⟩ => ?_)
  rw [evalPart_none]
  refine wpAny_pure ?_
  have I4 : Inv X pins σ H3 { s3 with heap := s3.heap.push { cls := .type "slice", data := .fields #[vl, vu, .none] } } := I3.kept (t' := s3.toks) fun b ob q => Heap.get?_push_of_some _ q
  obtain ⟨T, id, hT, ht, hg⟩ := hr pins { s3 with heap := s3.heap.push { cls := .type "slice", data := .fields #[vl, vu, .none] } } σ H3 x v vl vu l u s3.heap.objs.size Q I4 r1 (Heap.IsSliceOf.new ..) pl pu q3
  show wpAny (model X.prog X.w) X.A (subscriptTail e (.Slice lo hi none p2) v (.ref s3.heap.objs.size)) (EP X pins σ Q) X.xe { s3 with heap := s3.heap.push { cls := .type "slice", data := .fields #[vl, vu, .none] } }
  exact tail_any (ops := [.ref s3.heap.objs.size, v]) ht hT hg (by with_unfolding_all rfl)

/-- the items of xs[lo:hi] -/
def cutV (xs : List V) (lo hi : Option Int) : List V := (xs.drop (HT.sIx xs.length 0 lo)).take (HT.sIx xs.length xs.length hi - HT.sIx xs.length 0 lo)
theorem cutV_length (xs : List V) (lo hi : Option Int) : (cutV xs lo hi).length ≤ xs.length := by
  unfold cutV
  rw [List.length_take, List.length_drop]
  omega
/-- t[lo:hi], not the whole of it (the whole would be t itself) -/
def rSlT (K : PySem.W.Frag) : V → Option Int → Option Int → Hp → VK → Prop := fun x lo hi H Q => ∃ a xs, x = .ref a ∧ SqT K H a xs ∧
  ¬ (HT.sIx xs.length 0 lo = 0 ∧ HT.sIx xs.length xs.length hi = xs.length) ∧ ∀ p, H p = none → Q (.ref p) (upd H p (.tup (cutV xs lo hi)))

/-! ### t < u, t + u -/
def rLtT (K : PySem.W.Frag) : R2 := fun x y H Q => ∃ a b ns ms, x = .ref a ∧ y = .ref b ∧ SqT K H a (ns.map V.int) ∧ SqT K H b (ms.map V.int) ∧ Q (.bl (HT.lexLt ns ms)) H
/-- t + u, t not empty: u empty gives t itself -/
def rCatT (K : PySem.W.Frag) : R2 := fun x y H Q => ∃ a b xs ys, x = .ref a ∧ y = .ref b ∧ SqT K H a xs ∧ SqT K H b ys ∧ xs ≠ [] ∧ xs.length + ys.length ≤ sizeLine ∧
  (ys = [] → Q (.ref a) H) ∧ (ys ≠ [] → ∀ p, H p = none → Q (.ref p) (upd H p (.tup (xs ++ ys))))
end
end L2

namespace L2
open PySem PySem.Spec PyProof.Rows

/-! ### places -/
/-- the place that an index of any sign means -/
def ixN (n : Nat) (i : Int) : Option Nat := if 0 ≤ i then (if i < n then some i.toNat else none) else if -(n : Int) ≤ i then some (i + n).toNat else none
def atI {α : Type} (xs : List α) (i : Int) : Option α := (ixN xs.length i).bind fun j => xs[j]?
theorem ixN_seq {n : Nat} {i : Int} {j : Nat} (h : ixN n i = some j) : seqIndex? i n = some j ∧ j < n ∧ -(n : Int) ≤ i ∧ i < n := by
  unfold ixN at h
  by_cases h0 : 0 ≤ i
  · rw [if_pos h0] at h
    by_cases h1 : i < n
    · rw [if_pos h1] at h
      have e : i.toNat = j := Option.some.inj h
      exact ⟨by rw [seqIndex_of h0 h1, e], by omega, by omega, h1⟩
    · rw [if_neg h1] at h; cases h
  · rw [if_neg h0] at h
    by_cases h1 : -(n : Int) ≤ i
    · rw [if_pos h1] at h
      have e : (i + n).toNat = j := Option.some.inj h
      exact ⟨by rw [seqIndex_neg (by omega) h1, e], by omega, h1, by omega⟩
    · rw [if_neg h1] at h; cases h
theorem atI_get {α : Type} {xs : List α} {i : Int} {v : α} (h : atI xs i = some v) : ∃ j, seqIndex? i xs.length = some j ∧ xs[j]? = some v ∧ j < xs.length ∧ -(xs.length : Int) ≤ i ∧ i < xs.length := by
  unfold atI at h
  cases e : ixN xs.length i with
  | none => rw [e] at h; cases h
  | some j =>
    rw [e] at h
    obtain ⟨h1, h2, h3, h4⟩ := ixN_seq e
    exact ⟨j, h1, h, h2, h3, h4⟩
theorem atI_nat {α : Type} {xs : List α} {j : Nat} {v : α} (h : xs[j]? = some v) : atI xs (j : Int) = some v := by
  have hj : j < xs.length := (List.getElem?_eq_some_iff.mp h).1
  have e : ixN xs.length (j : Int) = some j := by
    unfold ixN
    rw [if_pos (by omega), if_pos (by omega)]; simp
  unfold atI; rw [e]; exact h

/-! ### what may be subscripted -/
/-- what stands as an index of a plain subscript -/
def PlainIx (b : Expr) : Prop := ∀ o i, subscripted b false o i = operate [o, i] (getItem o i)
/-- a subscript by values -/
def IxR (X : Cx) (r : R2) : Prop :=
  ∀ (value slice : Expr) (pins : List (Addr × Obj)) (s : Shared) (σ : St) (H : Hp) (x y : V) (v u : Value) (Q : VK), Inv X pins σ H s → RelV x v → RelV y u → r x y H Q →
    subscripted slice false v u = operate [v, u] (getItem v u) → wpAny (model X.prog X.w) X.A (subscriptTail value slice v u) (EP X pins σ Q) X.xe s
/-- a call of a builtin's method by values: the receiver, the arguments -/
def MtR (X : Cx) (id : String) (r : V → List V → Hp → VK → Prop) : Prop :=
  ∀ (pins : List (Addr × Obj)) (s : Shared) (σ : St) (H : Hp) (x : V) (xs : List V) (v : Value) (us : List Value) (Q : VK), Inv X pins σ H s → RelV x v → Vals xs us → r x xs H Q →
    wpAny (model X.prog X.w) X.A (call (.builtin id) (v :: us)) (EP X pins σ Q) X.xe s
section
variable {X : Cx} {a b : Expr} {ta tb : TE} {pos : Pos}
/-- a[b] -/
theorem pe_ix {r : R2} (hr : IxR X r) (ha : PE X a ta) (hb : PE X b tb) (hs : PlainIx b) : PE X (.Subscript a b pos) (tOp r ta tb) := by
  intro pins s σ H Q I h
  exact Subscript_ (binT ha hb I h fun v u s2 x y H2 I2 rx ry q => hr a b pins s2 σ H2 x y v u Q I2 rx ry q (hs _ _))

def rIxL (K : PySem.W.Frag) : R2 := fun x y H Q => ∃ p xs i v, x = .ref p ∧ y = .int i ∧ SqL K H p xs ∧ atI xs i = some v ∧ Q v H
def rIxT (K : PySem.W.Frag) : R2 := fun x y H Q => ∃ p xs i v, x = .ref p ∧ y = .int i ∧ SqT K H p xs ∧ atI xs i = some v ∧ Q v H
def rIxS : R2 := fun x y H Q => ∃ z i c, x = .str z ∧ y = .int i ∧ z.length ≤ sizeLine ∧ atI z.cps.toList i = some c ∧ Q (.str ⟨#[c]⟩) H
theorem ix_list : IxR X (rIxL X.K) := by
  intro value slice pins s σ H x y v u Q I rx ry h hs
  obtain ⟨p, xs, i, z, rfl, rfl, hq, he, q⟩ := h
  cases rx
  obtain ⟨t, rfl⟩ := ry
  obtain ⟨its, r, pl, hz⟩ := I.list hq
  obtain ⟨j, h1, h2, h3, h4, h5⟩ := atI_get he
  obtain ⟨w, ew, rw'⟩ := r.get h2
  have hl := r.length
  have hn := line63
  have fin : EP X pins σ Q w s := ⟨z, H, I, rw', q⟩
  by_cases h0 : 0 ≤ i
  · have hj : i.toNat = j := by
      rw [seqIndex_of h0 h5] at h1
      exact Option.some.inj h1
    exact item_listR pl.isList h0 (by omega) (by rw [hj]; simpa using ew) fin hs
  · have hj : (i + (its.toArray.size : Int)).toNat = j := by
      rw [seqIndex_neg (by omega) h4] at h1
      rw [List.size_toArray, ← hl]
      exact Option.some.inj h1
    exact subscriptTail_builtinR (x := w) pl.isList.typeIs slot_list_getitem.lookup
      (wpAny_getItem_list_neg (Q := fun r s' => r = w ∧ EP X pins σ Q r s') pl.isList (by omega) (by rw [List.size_toArray] <;> omega) (by omega) (by rw [hj]; simpa using ew) ⟨rfl, fin⟩) hs
theorem ix_tup : IxR X (rIxT X.K) := by
  intro value slice pins s σ H x y v u Q I rx ry h hs
  obtain ⟨p, xs, i, z, rfl, rfl, hq, he, q⟩ := h
  cases rx
  obtain ⟨t, rfl⟩ := ry
  obtain ⟨its, r, pl, hz⟩ := I.tuple hq
  obtain ⟨j, h1, h2, h3, h4, h5⟩ := atI_get he
  obtain ⟨w, ew, rw'⟩ := r.get h2
  have hl := r.length
  have hn := line63
  have fin : EP X pins σ Q w s := ⟨z, H, I, rw', q⟩
  exact subscriptTail_builtinR (x := w) pl.typeIs slot_tuple_getitem.lookup
    (getItem_tuple (j := j) (Q := fun r s' => r = w ∧ EP X pins σ Q r s') pl (by omega) (by omega) (by rw [List.size_toArray, ← hl]; exact h1) (by simpa using ew) ⟨rfl, fin⟩) hs
/-- list, tuple or str -/
def rIx (K : PySem.W.Frag) : R2 := fun x y H Q => rIxL K x y H Q ∨ rIxT K x y H Q ∨ rIxS x y H Q

/-! ### xs[i] = v, any sign -/
def rSetL : V → V → V → Hp → (Hp → Prop) → Prop := fun o i v H Q => ∃ p xs k j, o = .ref p ∧ i = .int k ∧ H p = some (.lst xs) ∧ ixN xs.length k = some j ∧ Q (upd H p (.lst (xs.set j v)))

/-! ### slices -/
theorem slice_bounds (lo hi : Option Int) (n : Nat) : (sliceBounds lo hi none n).1 = ((HT.sIx n 0 lo : Nat) : Int) ∧ (sliceBounds lo hi none n).2.1 = ((HT.sIx n n hi : Nat) : Int) ∧ (sliceBounds lo hi none n).2.2 = 1 := by
  refine ⟨?_, ?_, rfl⟩
  · cases lo with
    | none => simp [sliceBounds, HT.sIx]
    | some i =>
      simp only [sliceBounds, HT.sIx, Option.getD_none, show (1 : Int) > 0 by decide, if_true]
      by_cases h : i < 0
      · simp only [h, if_true] <;> omega
      · simp only [h, if_false] <;> omega
  · cases hi with
    | none => simp [sliceBounds, HT.sIx]
    | some i =>
      simp only [sliceBounds, HT.sIx, Option.getD_none, show (1 : Int) > 0 by decide, if_true]
      by_cases h : i < 0
      · simp only [h, if_true] <;> omega
      · simp only [h, if_false] <;> omega
theorem slicePick_cut (its : List Value) (lo hi : Option Int) : slicePick its.toArray lo hi none = ((its.drop (HT.sIx its.length 0 lo)).take (HT.sIx its.length its.length hi - HT.sIx its.length 0 lo)).toArray := by
  obtain ⟨h1, h2, h3⟩ := slice_bounds lo hi its.toArray.size
  unfold slicePick
  rw [h1, h2, h3]
  simp only [sliceRange_one, pick_run, List.size_toArray] <;> rfl
/-- xs[lo:hi] of a list: a new list -/
def rSlL (K : PySem.W.Frag) : V → Option Int → Option Int → Hp → VK → Prop := fun x lo hi H Q => ∃ a xs, x = .ref a ∧ SqL K H a xs ∧ ∀ p, H p = none → Q (.ref p) (upd H p (.lst (cutV xs lo hi)))
theorem sl_list : SlR X (rSlL X.K) := by
  intro pins s σ H x v vl vu lo hi sl Q I rx hs pl pu h
  obtain ⟨a, xs, rfl, hx, q⟩ := h
  cases rx
  obtain ⟨its, r, ht, hz⟩ := I.list hx
  have hlen := r.length
  refine ⟨"list", _, slot_list_getitem.lookup, ht.isList.typeIs, ?_⟩
  refine wpAny_getItem_list_slice ht.isList hs pl pu .none (by simp) ?_ (by rw [List.size_toArray] <;> omega)
  rw [slicePick_cut, ← hlen]
  refine ⟨.ref s.heap.objs.size, _, I.laid (t' := s.toks) (o := .lst (cutV xs lo hi)) (fun b ob q => Heap.get?_push_of_some _ q) (Nat.le_refl _) ?_, rfl, q _ (I.hok.fresh (Nat.le_refl _))⟩
  exact ⟨Nat.le_trans (cutV_length xs lo hi) hz, _, 0, (r.drop (HT.sIx xs.length 0 lo)).take (HT.sIx xs.length xs.length hi - HT.sIx xs.length 0 lo), Heap.get?_push_size _ rfl⟩

/-! ### in, not in: flat items -/
def flatV : V → Bool
  | .non => true
  | .bl _ => true
  | .int _ => true
  | .str _ => true
  | _ => false
/-- == of flat values -/
def eqV : V → V → Bool
  | .non, .non => true
  | .bl a, .bl b => a == b
  | .bl a, .int b => (if a then 1 else 0) == b
  | .int a, .bl b => a == (if b then 1 else 0)
  | .int a, .int b => a == b
  | .str a, .str b => a == b
  | _, _ => false
theorem eqAt_V {A : Around} {s : Shared} {y x : V} {u v : Value} (ry : RelV y u) (rx : RelV x v) (fy : flatV y = true) (fx : flatV x = true) : SeqAt.EqAt A s u v (eqV y x) := by
  cases y with
  | non =>
    cases ry
    cases x with
    | non => cases rx; exact SeqAt.EqAt.same _
    | bl b => cases rx; exact SeqAt.EqAt.none_bool b
    | int b => obtain ⟨t, rfl⟩ := rx; exact SeqAt.EqAt.none_int b t
    | str b => obtain ⟨t, rfl⟩ := rx; exact SeqAt.EqAt.none_str b t
    | _ => exact absurd (show false = true from fx) Bool.false_ne_true
  | bl a =>
    cases ry
    cases x with
    | non => cases rx; exact SeqAt.EqAt.bool_none a
    | bl b => cases rx; exact SeqAt.EqAt.bool_bool a b
    | int b => obtain ⟨t, rfl⟩ := rx; exact SeqAt.EqAt.bool_int a b t
    | str b => obtain ⟨t, rfl⟩ := rx; exact SeqAt.EqAt.bool_str a b t
    | _ => exact absurd (show false = true from fx) Bool.false_ne_true
  | int a =>
    obtain ⟨t', rfl⟩ := ry
    cases x with
    | non => cases rx; exact SeqAt.EqAt.int_none a t'
    | bl b => cases rx; exact SeqAt.EqAt.int_bool a t' b
    | int b => obtain ⟨t, rfl⟩ := rx; exact SeqAt.EqAt.int_int a t' b t
    | str b => obtain ⟨t, rfl⟩ := rx; exact SeqAt.EqAt.int_str a t' b t
    | _ => exact absurd (show false = true from fx) Bool.false_ne_true
  | str a =>
    obtain ⟨t', rfl⟩ := ry
    cases x with
    | non => cases rx; exact SeqAt.EqAt.str_none a t'
    | bl b => cases rx; exact SeqAt.EqAt.str_bool a t' b
    | int b => obtain ⟨t, rfl⟩ := rx; exact SeqAt.EqAt.str_int a t' b t
    | str b => obtain ⟨t, rfl⟩ := rx; exact SeqAt.EqAt.str_str a t' b t
    | _ => exact absurd (show false = true from fx) Bool.false_ne_true
  | _ => exact absurd (show false = true from fy) Bool.false_ne_true
/-- the items' answers, read off the values (a value's own answer does not lean on its token) -/
def eqU (x : V) (u : Value) : Bool := match u with
  | .none => eqV .non x
  | .bool b => eqV (.bl b) x
  | .int i _ => eqV (.int i) x
  | .str z _ => eqV (.str z) x
  | _ => false
theorem eqU_of {x y : V} {u : Value} (r : RelV y u) (f : flatV y = true) : eqU x u = eqV y x := by
  cases y with
  | non => cases r; rfl
  | bl b => cases r; rfl
  | int i => obtain ⟨t, rfl⟩ := r; rfl
  | str z => obtain ⟨t, rfl⟩ := r; rfl
  | _ => exact absurd (show false = true from f) Bool.false_ne_true
theorem any_eqU {x : V} : ∀ {xs : List V} {us : List Value}, Vals xs us → xs.all flatV = true → us.any (eqU x) = xs.any fun y => eqV y x
  | _, _, .nil, _ => rfl
  | y :: xs, u :: us, .cons r t, f => by
    rw [List.all_cons, Bool.and_eq_true] at f
    rw [List.any_cons, List.any_cons, eqU_of r f.1, any_eqU t f.2]
theorem mem_eqAt {A : Around} {s : Shared} {x : V} {v : Value} (rx : RelV x v) (fx : flatV x = true) : ∀ {xs : List V} {us : List Value}, Vals xs us → xs.all flatV = true → ∀ u ∈ us, SeqAt.EqAt A s u v (eqU x u)
  | _, _, .nil, _ => fun u hu => by cases hu
  | y :: xs, u :: us, .cons r t, f => fun u' hu => by
    rw [List.all_cons, Bool.and_eq_true] at f
    rcases List.mem_cons.mp hu with rfl | hu
    · rw [eqU_of r f.1]; exact eqAt_V r rx f.1 fx
    · exact mem_eqAt rx fx t f.2 u' hu
def inV (x : V) (xs : List V) : Bool := xs.any fun y => eqV y x
/-- x in a list or tuple of flat items -/
def rIn (K : PySem.W.Frag) (neg : Bool) : R2 := fun x y H Q => ∃ p xs, y = .ref p ∧ (SqL K H p xs ∨ SqT K H p xs) ∧ flatV x = true ∧ xs.all flatV = true ∧ Q (.bl (if neg then !inV x xs else inV x xs)) H
theorem op_notIn_seq : OpR X (compareOp .NotIn) (rIn X.K true) := by
  intro pins s σ H x y v u Q I rx ry h
  obtain ⟨p, xs, rfl, hq, fx, fs, q⟩ := h
  cases ry
  rcases hq with hq | hq
  · obtain ⟨its, r, pl, hz⟩ := I.list hq
    refine SeqAt.notIn_listAt (eqU x) pl.isList (fun w hw => mem_eqAt rx fx r fs w (by simpa using hw)) ⟨.bl _, H, I, rfl, ?_⟩
    rw [show its.toArray.any (eqU x) = its.any (eqU x) by simp, any_eqU r fs]
    exact q
  · obtain ⟨its, r, pl, hz⟩ := I.tuple hq
    refine SeqAt.notIn_tupleAt (eqU x) pl (fun w hw => mem_eqAt rx fx r fs w (by simpa using hw)) ⟨.bl _, H, I, rfl, ?_⟩
    rw [show its.toArray.any (eqU x) = its.any (eqU x) by simp, any_eqU r fs]
    exact q

/-! ### len, list(x), tuple(x) of any list or tuple that is read -/
theorem call_len_seq : CallR X (.builtin "len") (fun xs H Q => ∃ p ys, xs = [.ref p] ∧ (SqL X.K H p ys ∨ SqT X.K H p ys) ∧ Q (.int ys.length) H) := by
  intro pins s σ H xs us Q I r h
  obtain ⟨p, ys, rfl, hq, q⟩ := h
  obtain ⟨u, rfl, rx⟩ := vals1 r
  cases rx
  have hn := line63
  rcases hq with hq | hq
  · obtain ⟨its, r', pl, hz⟩ := I.list hq
    have hlen := r'.length
    exact Calls.call_len_list pl.isList (by simp only [List.size_toArray] <;> omega) ⟨.int ys.length, H, I.tok _, ⟨s.toks + 1, by rw [List.size_toArray, hlen]⟩, q⟩
  · obtain ⟨its, r', pl, hz⟩ := I.tuple hq
    have hlen := r'.length
    exact len_tuple pl (by simp only [List.size_toArray] <;> omega) ⟨.int ys.length, H, I.tok _, ⟨s.toks + 1, by rw [List.size_toArray, hlen]⟩, q⟩
theorem call_list_of : CallR X (.type "list") (fun xs H Q => ∃ p ys, xs = [.ref p] ∧ (SqL X.K H p ys ∨ SqT X.K H p ys) ∧ ∀ l, H l = none → Q (.ref l) (upd H l (.lst ys))) := by
  intro pins s σ H xs us Q I r h
  obtain ⟨p, ys, rfl, hq, q⟩ := h
  obtain ⟨u, rfl, rx⟩ := vals1 r
  cases rx
  have fin : ∀ (its : List Value), Vals ys its → ys.length ≤ sizeLine → ∀ (h' : Heap) (c' : Nat), (∀ b o', s.heap.get? b = some o' → h'.get? b = some o') →
      h'.get? s.heap.objs.size = some { cls := .type "list", dict := none, data := .seq its.toArray c', slots := #[] } → EP X pins σ Q (.ref s.heap.objs.size) { s with heap := h' } := fun its r' hz h' c' kp e =>
    ⟨.ref s.heap.objs.size, _, I.laid (t' := s.toks) kp (Nat.le_refl _) (show ObjOk X.prog X.w _ h' _ (.lst ys) from ⟨hz, its, c', r', e⟩), rfl, q _ (I.hok.fresh (Nat.le_refl _))⟩
  rcases hq with hq | hq
  · obtain ⟨its, r', pl, hz⟩ := I.list hq
    have hlen := r'.length
    obtain ⟨o, ho, hc, n, hd⟩ := pl.isList
    exact call_list_seq p (.inl rfl) ho hc hd (fun h' c' kp e => fin its r' hz h' c' kp e) (by simp only [List.size_toArray] <;> omega)
  · obtain ⟨its, r', pl, hz⟩ := I.tuple hq
    have hlen := r'.length
    obtain ⟨o, ho, hc, n, hd⟩ := pl
    exact call_list_seq p (.inr rfl) ho hc hd (fun h' c' kp e => fin its r' hz h' c' kp e) (by simp only [List.size_toArray] <;> omega)

/-! ### the call of a builtin's method: o.m(..) -/
/-- the value is of that builtin type -/
def tyV (K : PySem.W.Frag) (T : String) (x : V) (H : Hp) : Prop := match x with
  | .str _ => T = "str"
  | .int _ => T = "int"
  | .ref p => (T = "list" ∧ ∃ xs, SqL K H p xs) ∨ (T = "tuple" ∧ ∃ o, K.lookup p = some o ∧ o.cls = .type "tuple" ∧ o.dict = none) ∨
      (T = "dict" ∧ ((∃ kvs, H p = some (.dK kvs)) ∨ ∃ kvs, H p = some (.dT kvs))) ∨ (T = "set" ∧ ∃ S n, H p = some (.set S n))
  | _ => False
theorem tyV_is {pins : List (Addr × Obj)} {σ : St} {H : Hp} {s : Shared} {T : String} {x : V} {v : Value} (I : Inv X pins σ H s) (r : RelV x v) (ty : tyV X.K T x H) :
    s.TypeIs v T ∧ ∀ a, v = .ref a → ∃ ob, s.heap.get? a = some ob ∧ ob.dict = none := by
  cases x with
  | str z =>
    obtain ⟨t, rfl⟩ := r
    cases (show T = "str" from ty)
    exact ⟨typeIs_str s z t, fun _ e => nomatch e⟩
  | int i =>
    obtain ⟨t, rfl⟩ := r
    cases (show T = "int" from ty)
    exact ⟨typeIs_int s i t, fun _ e => nomatch e⟩
  | ref p =>
    cases r
    rcases ty with ⟨rfl, xs, hq⟩ | ⟨rfl, o, hk, hc, hd⟩ | ⟨rfl, hk⟩ | ⟨rfl, S, n, hk⟩
    · obtain ⟨its, _, pl, _⟩ := I.list hq
      refine ⟨pl.isList.typeIs, fun a e => ?_⟩
      cases e
      obtain ⟨o, n, e, c, hd, _⟩ := pl
      exact ⟨o, e, hd⟩
    · refine ⟨⟨o, I.kIn p o hk, hc⟩, fun a e => ?_⟩
      cases e
      exact ⟨o, I.kIn _ o hk, hd⟩
    · have z : ∃ o, s.heap.get? p = some o ∧ o.ExactDict := by
        rcases hk with ⟨kvs, hk⟩ | ⟨kvs, hk⟩
        · obtain ⟨_, _, _, _, o, _, _, e, ex, _⟩ := I.hok p _ hk
          exact ⟨o, e, ex⟩
        · obtain ⟨_, _, _, _, o, _, _, e, ex, _⟩ := I.hok p _ hk
          exact ⟨o, e, ex⟩
      obtain ⟨o, e, ex⟩ := z
      refine ⟨⟨o, e, ex.1⟩, fun a e2 => ?_⟩
      cases e2
      exact ⟨o, e, ex.2.1⟩
    · obtain ⟨o, _, _, _, e, ex, _⟩ := I.hok p _ hk
      refine ⟨⟨o, e, ex.1⟩, fun a e2 => ?_⟩
      cases e2
      exact ⟨o, e, ex.2.1⟩
  | _ => exact False.elim ty
def tBM0 (K : PySem.W.Frag) (T : String) (r : V → List V → Hp → VK → Prop) (to : TE) : TE := fun σ H Q => to σ H fun x H1 => tyV K T x H1 ∧ r x [] H1 Q
def tBM (K : PySem.W.Frag) (T : String) (r : V → List V → Hp → VK → Prop) (to : TE) (t : TA) : TE := fun σ H Q => to σ H fun x H1 => tyV K T x H1 ∧ t σ H1 fun xs H2 => r x xs H2 Q
variable {o e : Expr} {es : List Expr} {to : TE} {t : TA} {name : Str} {apos cpos : Pos} {T id : String} {r : V → List V → Hp → VK → Prop}
theorem pe_bm (pa : PlainAttrs T) (slot : Slot T name id) (hty : typeOf (.builtin id) = pure (.type "method_descriptor")) (hm : MtR X id r) (ho : PE X o to) (ha : PA X (e :: es) t)
    (hbase : attributeBase o name X.env (eval o X.env) = eval o X.env := by rfl)
    (hfew : ((backTo cpos (starEach (e :: es) X.env)).all (fun x => !x.1) && (backToKw cpos (keywordEach [] X.env)).all (fun x => x.1.isSome)
      && decide ((e :: es).length + ([] : List Keyword).length + (if ([] : List Keyword).isEmpty then 0 else 1) < 30)) = true := by rfl)
    (hline : (apos.endLine == cpos.line) = true := by rfl) (hs : starEach (e :: es) X.env = (false, eval e X.env) :: starEach es X.env := by rfl) (hplain : (backTo cpos (starEach es X.env)).any (·.1) = false := by rfl) :
    PE X (.Call (.Attribute o name apos) (e :: es) [] cpos) (tBM X.K T r to t) := by
  intro pins s σ H Q I h
  refine wpAny_Call_method_late hbase hfew hline rfl (thn (ho pins s σ H _ I h) fun v s1 ⟨x, H1, I1, r1, ty, q1⟩ => ?_)
  obtain ⟨h1, h2⟩ := tyV_is I1 r1 ty
  refine ⟨T, id, pa, slot, hty, h1, h2, ?_⟩
  have hA := ha cpos pins s1 σ H1 _ I1 q1
  rw [hs] at hA ⊢
  refine Calls.callWith_builtin (by show (false || (backTo cpos (starEach es X.env)).any (·.1)) = false; rw [hplain] <;> rfl) (Calls.evalArgs_plain ?_)
  exact thn hA fun us s2 ⟨vs, H2, I2, r2, q2⟩ => hm pins s2 σ H2 x vs v us Q I2 r1 r2 q2
/- xs.append(e), list.index on a module's tuple .. are MtR facts of 06m -/
end
end L2

namespace L2
open PySem PySem.Spec PyProof.Rows

def MtM (X : Cx) (id : String) (r : V → List V → Hp → VK → Prop) : Prop :=
  ∀ (pins : List (Addr × Obj)) (s : Shared) (σ : St) (H : Hp) (x : V) (xs : List V) (v : Value) (us : List Value) (Q : VK), Inv X pins σ H s → RelV x v → Vals xs us → r x xs H Q →
    wpAny (model X.prog X.w) X.A (call (.builtin id) (v :: us)) (EP X pins σ Q) X.xe s

/-! ### lists of values -/
theorem Vals.one : ∀ {x : V} {us : List Value}, Vals [x] us → ∃ u, us = [u] ∧ RelV x u
  | _, _, .cons r .nil => ⟨_, rfl, r⟩
theorem Vals.two : ∀ {x y : V} {us : List Value}, Vals [x, y] us → ∃ u v, us = [u, v] ∧ RelV x u ∧ RelV y v
  | _, _, _, .cons r (.cons q .nil) => ⟨_, _, rfl, r, q⟩

section
variable {X : Cx} {pins : List (Addr × Obj)} {σ : St} {H : Hp} {s : Shared} {l b : Addr} {xs ys zs : List V}

/-! ### the two steps: a tracked list is rewritten, a new list is laid -/
theorem Inv.lset {its its' : List Value} {n : Nat} {f : Array Value → Array Value} {t' : Nat} (I : Inv X pins σ H s) (hH : H l = some (.lst xs))
    (e : s.heap.get? l = some { cls := .type "list", data := .seq its.toArray n }) (hf : f its.toArray = its'.toArray) (hv : Vals ys its') (hz : ys.length ≤ sizeLine) :
    Inv X pins σ (upd H l (.lst ys)) { s with heap := s.heap.update l (Obj.mapSeq f), toks := t' } := by
  have q := PySem.IsL.update e f
  rw [hf] at q
  refine I.write (x := l) (e := l) (by rw [hH]; exact trivial) (.inl rfl) (fun b' u hb hu => (Heap.get?_update_other s.heap (Obj.mapSeq f) (Ne.symm hb)).trans hu) ⟨_, q⟩ ?_
  exact ⟨hz, its', _, hv, q⟩
theorem Inv.lnew {its : List Value} {t' : Nat} (I : Inv X pins σ H s) (hv : Vals ys its) (hz : ys.length ≤ sizeLine) :
    Inv X pins σ (upd H s.heap.objs.size (.lst ys)) { s with heap := s.heap.push { cls := .type "list", data := .seq its.toArray }, toks := t' } :=
  I.laid (fun _ _ q => Heap.get?_push_of_some _ q) (Nat.le_refl _) ⟨hz, its, 0, hv, Heap.get?_push_size _ rfl⟩
theorem Inv.fresh (I : Inv X pins σ H s) : H s.heap.objs.size = none := I.hok.fresh (Nat.le_refl _)
theorem Inv.lstM (I : Inv X pins σ H s) (hH : H l = some (.lst xs)) : xs.length ≤ sizeLine ∧ ∃ (its : List Value) (n : Nat), Vals xs its ∧ xs.length = its.length ∧ s.heap.get? l = some { cls := .type "list", data := .seq its.toArray n } := by
  obtain ⟨z, its, n, r, e⟩ := I.hok l _ hH
  exact ⟨z, its, n, r, r.length, e⟩

end

section
variable {X : Cx}

/-! ### methods -/
def rAppend : V → List V → Hp → VK → Prop := fun x vs H Q => ∃ l xs y, x = .ref l ∧ vs = [y] ∧ H l = some (.lst xs) ∧ xs.length < sizeLine ∧ Q .non (upd H l (.lst (xs ++ [y])))
theorem mt_append : MtM X "list.append" rAppend := by
  intro pins s σ H x vs v us Q I rx rv h
  obtain ⟨l, xs, y, rfl, rfl, hH, hz, q⟩ := h
  cases rx
  obtain ⟨u, rfl, ru⟩ := rv.one
  obtain ⟨z, its, n, r, hl, e⟩ := I.lstM hH
  refine call_meets F.slot_list_append ⟨_, e, rfl⟩ F.entry_list_append (F.args_list_append_2 _ _) (PySem.list_append l its.toArray n u (by rw [List.size_toArray]; omega)) ⟨e, ?_⟩
  refine ⟨.non, _, I.lset (its' := its ++ [u]) hH e (by simp) (r.append (.cons ru .nil)) ?_, rfl, q⟩
  rw [List.length_append, List.length_singleton]
  omega

def rExtend : V → List V → Hp → VK → Prop := fun x vs H Q => ∃ l b xs zs, x = .ref l ∧ vs = [.ref b] ∧ H l = some (.lst xs) ∧ H b = some (.lst zs) ∧ xs.length + zs.length ≤ sizeLine ∧ Q .non (upd H l (.lst (xs ++ zs)))

def rPop : V → List V → Hp → VK → Prop := fun x vs H Q => ∃ l xs y, x = .ref l ∧ vs = [] ∧ H l = some (.lst xs) ∧ xs[xs.length - 1]? = some y ∧ Q y (upd H l (.lst xs.dropLast))

def rPopAt : V → List V → Hp → VK → Prop := fun x vs H Q => ∃ l xs i k y, x = .ref l ∧ vs = [.int i] ∧ H l = some (.lst xs) ∧ -(2 ^ 63) ≤ i ∧ i < 2 ^ 63 ∧ seqIndex? i xs.length = some k ∧ xs[k]? = some y ∧ Q y (upd H l (.lst (xs.eraseIdx k)))

def rReverse : V → List V → Hp → VK → Prop := fun x vs H Q => ∃ l xs, x = .ref l ∧ vs = [] ∧ H l = some (.lst xs) ∧ Q .non (upd H l (.lst xs.reverse))

def rClear : V → List V → Hp → VK → Prop := fun x vs H Q => ∃ l xs, x = .ref l ∧ vs = [] ∧ H l = some (.lst xs) ∧ Q .non (upd H l (.lst []))

/-! ### list + list, list += list, list * int -/
def rCat : R2 := fun x y H Q => ∃ l b xs zs, x = .ref l ∧ y = .ref b ∧ H l = some (.lst xs) ∧ H b = some (.lst zs) ∧ xs.length + zs.length ≤ sizeLine ∧ ∀ p, H p = none → Q (.ref p) (upd H p (.lst (xs ++ zs)))
theorem op_cat : OpR X (binaryOp .Add) rCat := by
  intro pins s σ H x y v u Q I rx ry h
  obtain ⟨l, b, xs, zs, rfl, rfl, hH, hB, hz, q⟩ := h
  cases rx
  cases ry
  obtain ⟨z, its, n, r, hl, e⟩ := I.lstM hH
  obtain ⟨z2, its2, n2, r2, hl2, e2⟩ := I.lstM hB
  refine PySem.P.add_list e e2 ?_ (by rw [List.size_toArray, List.size_toArray]; omega)
  have ea : its.toArray ++ its2.toArray = (its ++ its2).toArray := by simp
  rw [ea]
  exact ⟨.ref _, _, I.lnew (t' := s.toks) (r.append r2) (by rw [List.length_append]; omega), rfl, q _ I.fresh⟩
/-- a list times an int (a negative one is nothing) -/
def rRep : R2 := fun x y H Q => ∃ l k xs, x = .ref l ∧ y = .int k ∧ H l = some (.lst xs) ∧ -(2 ^ 63) ≤ k ∧ k < 2 ^ 63 ∧ xs.length * k.toNat ≤ sizeLine ∧
  ∀ p, H p = none → Q (.ref p) (upd H p (.lst (List.replicate k.toNat xs).flatten))

/-! ### del xs[i] -/
end

/-! ### xs[a:b] = ys -/
section
variable {prog : Program} {w : World} {A : Around} {E : Value → Shared → Prop} {s : Shared}
end

section
variable {X : Cx}
end
end L2

namespace L2
open PySem PySem.Spec PyProof.Rows

/-! ### lists of pairs as tables -/
section
variable {κ : Type} [DecidableEq κ]
def valV (kvs : List (κ × V)) (k : κ) : Option V := (kvs.find? fun kv => decide (kv.1 = k)).map (·.2)
/-- in its place, or at the end -/
def putK (kvs : List (κ × V)) (k : κ) (v : V) : List (κ × V) :=
  if (kvs.any fun kv => decide (kv.1 = k)) = true then kvs.map (fun kv => if kv.1 = k then (kv.1, v) else kv) else kvs ++ [(k, v)]
def dropK (kvs : List (κ × V)) (k : κ) : List (κ × V) := kvs.filter fun kv => decide (kv.1 ≠ k)

theorem valV_pos {p : κ × V} {r : List (κ × V)} {k : κ} (e : p.1 = k) : valV (p :: r) k = some p.2 := by simp [valV, List.find?_cons, e]
theorem valV_neg {p : κ × V} {r : List (κ × V)} {k : κ} (e : ¬ p.1 = k) : valV (p :: r) k = valV r k := by simp [valV, List.find?_cons, e]
theorem length_putK (kvs : List (κ × V)) (k : κ) (v : V) : (putK kvs k v).length ≤ kvs.length + 1 := by
  unfold putK
  split
  · rw [List.length_map]; omega
  · rw [List.length_append, List.length_cons, List.length_nil]; omega


end


/-! ### a tracked dict, its keys ints and texts or tuples of these -/
theorem kV_is {P : Program} {w : World} {k : Key} {u : Value} (r : RelV (kV k) u) : (mixKind P w).is k u = true := by
  cases k with
  | inl i => obtain ⟨t, e⟩ := (show ∃ t, u = Value.int i t from r); subst e; exact mixKind_int P w i t
  | inr x => obtain ⟨t, e⟩ := (show ∃ t, u = Value.str x t from r); subst e; exact mixKind_str P w x t
theorem kV_inj {a b : Key} (e : kV a = kV b) : a = b := by
  cases a with
  | inl i => cases b with
    | inl j => have e' : V.int i = V.int j := e; injection e' with e'; rw [e']
    | inr y => exact nomatch (show V.int i = V.str y from e)
  | inr x => cases b with
    | inl j => exact nomatch (show V.str x = V.int j from e)
    | inr y => have e' : V.str x = V.str y := e; injection e' with e'; rw [e']

/-- raw entries of a dict with tuple keys -/
abbrev KT (H : Hp) : List (List Key × V) → List (List Key × Addr × Value) → Prop := Paired fun p q => p.1 = q.1 ∧ H q.2.1 = some (.tup (p.1.map kV)) ∧ RelV p.2 q.2.2

section
variable {P : Program} {w : World} {H : Hp} {h : Heap} {a : Addr}
end

/-- what the dict at a holds at the key y -/
def DGet (H : Hp) (a : Addr) (y : V) (r : Option V) : Prop :=
  (∃ kvs k, Rd H a (.dK kvs) ∧ y = kV k ∧ r = valV kvs k) ∨ ∃ kvs k b, Rd H a (.dT kvs) ∧ y = .ref b ∧ H b = some (.tup (k.map kV)) ∧ r = valV kvs k
/-- the heap behind a[y] = v -/
def DPut (H : Hp) (a : Addr) (y v : V) (H' : Hp) : Prop :=
  (∃ kvs k, H a = some (.dK kvs) ∧ y = kV k ∧ kvs.length < sizeLine ∧ H' = upd H a (.dK (putK kvs k v))) ∨
  ∃ kvs k b, H a = some (.dT kvs) ∧ y = .ref b ∧ H b = some (.tup (k.map kV)) ∧ kvs.length < sizeLine ∧ H' = upd H a (.dT (putK kvs k v))


section
variable {X : Cx} {pins : List (Addr × Obj)} {σ : St} {H : Hp} {s : Shared} {a : Addr} {y v : V} {u r : Value} {o : Option V} {A : Around} {E : Value → Shared → Prop}


end

section
variable {X : Cx} {pins : List (Addr × Obj)} {σ : St} {H : Hp} {s : Shared} {a : Addr} {kvs : List (Key × V)} {k : Key} {u : Value} {A : Around} {E : Value → Shared → Prop}
end


/-! ### readings and rules -/
/-- the element of a subscription, not a slice -/
def NoSl (i : Expr) : Prop := ∀ ov iv, subscripted i false ov iv = operate [ov, iv] (getItem ov iv)


/-- d[y] -/
def tDGet (td ty : TE) : TE := fun σ H Q => td σ H fun x H1 => ty σ H1 fun y H2 => ∃ a v, x = .ref a ∧ DGet H2 a y (some v) ∧ Q v H2
/-- y in d, y not in d -/
def tDIn (ty td : TE) : TE := fun σ H Q => ty σ H fun y H1 => td σ H1 fun x H2 => ∃ a o, x = .ref a ∧ DGet H2 a y o ∧ Q (.bl o.isSome) H2
def tDNotIn (ty td : TE) : TE := fun σ H Q => ty σ H fun y H1 => td σ H1 fun x H2 => ∃ a o, x = .ref a ∧ DGet H2 a y o ∧ Q (.bl (!o.isSome)) H2
/-- d[y] = v -/
def sDPut (td ty tv : TE) : TS := fun D σ H => tv σ H fun v H1 => td σ H1 fun x H2 => ty σ H2 fun y H3 => ∃ a H4, x = .ref a ∧ DPut H3 a y v H4 ∧ D.nx σ H4
/-- d[y] op= v -/
def sDAug (td ty tv : TE) (rd : V → V → Hp → VK → Prop) : TS := fun D σ H => td σ H fun x H1 => ty σ H1 fun y H2 => ∃ a v, x = .ref a ∧ DGet H2 a y (some v) ∧
  tv σ H2 fun y2 H3 => rd v y2 H3 fun z H4 => ∃ H5, DPut H4 a y z H5 ∧ D.nx σ H5
/-- del d[y] -/
def sDDel (td ty : TE) : TS := fun D σ H => td σ H fun x H1 => ty σ H1 fun y H2 => ∃ a kvs k, x = .ref a ∧ H2 a = some (.dK kvs) ∧ y = kV k ∧ (valV kvs k).isSome = true ∧ D.nx σ (upd H2 a (.dK (dropK kvs k)))

section
variable {X : Cx} {o i e value : Expr} {pos pos' tpos : Pos} {td ty tv : TE}
end


/-! ### displays -/
/-- {}, to be a dict of the kind that is wanted -/
def tDNewK : TE := fun _ H Q => ∀ p, H p = none → Q (.ref p) (upd H p (.dK []))
def tDNewT : TE := fun _ H Q => ∀ p, H p = none → Q (.ref p) (upd H p (.dT []))
section
variable {X : Cx} {pos : Pos}
end

/-- the pairs of a display, from the left -/
def tPairs : List (TE × TE) → St → Hp → (List (V × V) → Hp → Prop) → Prop
  | [], _, H, Q => Q [] H
  | (tk, tv) :: r, σ, H, Q => tk σ H fun x H1 => tv σ H1 fun y H2 => tPairs r σ H2 fun ps H3 => Q ((x, y) :: ps) H3
abbrev VV : List (V × V) → List (Value × Value) → Prop := Paired fun p q => RelV p.1 q.1 ∧ RelV p.2 q.2
def PPs (X : Cx) (pos : Pos) (keys : List (Option Expr)) (values : List Expr) (trs : List (TE × TE)) : Prop :=
  ∀ (pins : List (Addr × Obj)) (s : Shared) (σ : St) (H : Hp) (Q : List (V × V) → Hp → Prop), Inv X pins σ H s → tPairs trs σ H Q →
    wpAny (model X.prog X.w) X.A (evalPairs (pairTrees keys values X.env pos)) (fun vs s' => ∃ ps H', Inv X pins σ H' s' ∧ VV ps vs ∧ Q ps H') X.xe s

def mergeK (kvs more : List (Key × V)) : List (Key × V) := more.foldl (fun acc kv => putK acc kv.1 kv.2) kvs
/-- {k: v, ..} with keys ints and texts; the new dict stands empty while the pairs are made -/
def tDisp (trs : List (TE × TE)) : TE := fun σ H Q => ∀ p, H p = none → tPairs trs σ (upd H p (.dK [])) fun ps H2 => H2 p = some (.dK []) ∧ ∃ kvs : List (Key × V), ps = kvs.map (fun kv => (kV kv.1, kv.2)) ∧ kvs.length ≤ 15 ∧ Q (.ref p) (upd H2 p (.dK (mergeK [] kvs)))


/-! ### methods -/
/-- a method call o.m(e) of a built-in, with one argument: what must be seen of the text -/
structure M1 (X : Cx) (o : Expr) (m : Str) (apos : Pos) (e : Expr) (cpos : Pos) : Prop where
  base : attributeBase o m X.env (eval o X.env) = eval o X.env
  few : ((backTo cpos (starEach [e] X.env)).all (fun x => !x.1) && (backToKw cpos (keywordEach [] X.env)).all (fun x => x.1.isSome)
    && decide (([e] : List Expr).length + ([] : List Keyword).length + (if ([] : List Keyword).isEmpty then 0 else 1) < 30)) = true
  line : (apos.endLine == cpos.line) = true
  trees : backTo cpos (starEach [e] X.env) = [(false, eval e X.env)]
structure M2 (X : Cx) (o : Expr) (m : Str) (apos : Pos) (e f : Expr) (cpos : Pos) : Prop where
  base : attributeBase o m X.env (eval o X.env) = eval o X.env
  few : ((backTo cpos (starEach [e, f] X.env)).all (fun x => !x.1) && (backToKw cpos (keywordEach [] X.env)).all (fun x => x.1.isSome)
    && decide (([e, f] : List Expr).length + ([] : List Keyword).length + (if ([] : List Keyword).isEmpty then 0 else 1) < 30)) = true
  line : (apos.endLine == cpos.line) = true
  trees : backTo cpos (starEach [e, f] X.env) = [(false, eval e X.env), (false, eval f X.env)]

/-- a is a dict, whatever its keys -/
def IsD (H : Hp) (a : Addr) : Prop := (∃ kvs, Rd H a (.dK kvs)) ∨ ∃ kvs, Rd H a (.dT kvs)

section
variable {X : Cx} {pins : List (Addr × Obj)} {σ : St} {H : Hp} {s : Shared} {a : Addr} {y d : V} {u r : Value} {o : Option V} {A : Around} {E : Value → Shared → Prop}
end

def tDGet1 (td ty : TE) : TE := fun σ H Q => td σ H fun x H1 => ∃ a, x = .ref a ∧ IsD H1 a ∧ ty σ H1 fun y H2 => ∃ o, DGet H2 a y o ∧ Q (o.getD .non) H2
def tDGet2 (td ty tx : TE) : TE := fun σ H Q => td σ H fun x H1 => ∃ a, x = .ref a ∧ IsD H1 a ∧ ty σ H1 fun y H2 => tx σ H2 fun z H3 => ∃ o, DGet H3 a y o ∧ Q (o.getD z) H3
/-- d.pop(k): there; d.pop(k, x): there or not -/
def tDPop1 (td ty : TE) : TE := fun σ H Q => td σ H fun x H1 => ∃ a, x = .ref a ∧ IsD H1 a ∧ ty σ H1 fun y H2 => ∃ kvs k v, H2 a = some (.dK kvs) ∧ y = kV k ∧ valV kvs k = some v ∧ Q v (upd H2 a (.dK (dropK kvs k)))
def tDPop2 (td ty tx : TE) : TE := fun σ H Q => td σ H fun x H1 => ∃ a, x = .ref a ∧ IsD H1 a ∧ ty σ H1 fun y H2 => tx σ H2 fun z H3 => ∃ kvs k, H3 a = some (.dK kvs) ∧ y = kV k ∧
  (∀ v, valV kvs k = some v → Q v (upd H3 a (.dK (dropK kvs k)))) ∧ (valV kvs k = none → Q z H3)
section
variable {X : Cx} {o e f : Expr} {apos cpos : Pos} {td ty tx : TE}
end

/-! ### dict(d): a copy -/
section
variable {X : Cx} {pins : List (Addr × Obj)} {σ : St} {H : Hp} {s : Shared} {a : Addr} {kvs : List (Key × V)} {A : Around} {E : Value → Shared → Prop}
end


section
variable {X : Cx} {pins : List (Addr × Obj)} {σ : St} {H : Hp} {s : Shared} {a : Addr} {y : V} {u : Value} {A : Around} {E : Value → Shared → Prop}
end
end L2

namespace Att
open PySem PySem.W PySem.Calls PyProof.Rows

/-! ### the script -/
theorem ints_of_wellAll {P : Params} {h : Heap} : ∀ (ns : List Int) (vs : List Value), WellAll P h vs (ns.map WData.int) → IntsAre vs ns := by
  intro ns
  induction ns with
  | nil =>
    intro vs w
    rw [List.map_nil] at w
    cases w
    exact .nil
  | cons n ns ih =>
    intro vs w
    rw [List.map_cons] at w
    cases w with
    | cons a b =>
      cases a
      exact .cons _ _ (ih _ b)

theorem script_of {l : OpenLaw} {n : Nat} (hn : l.most = some n) {P : Params} {h : Heap} {args : List WData} {vals : List Value}
    (hpre : l.row.toRowW.claim.pre args = true) (hwl : WellAll P h vals args) :
    ∃ a vs ns, vals = [Value.ref a] ∧ args = [WData.list (ns.map WData.int)] ∧ h.get? a = some { cls := .type "list", data := .seq vs.toArray } ∧ IntsAre vs ns ∧ ns.length ≤ n := by
  have hsh : WShape.hasAll [] args [.list .int] = true := (pre_splitW hpre).1
  have hc : l.pre.holds [] { args := args } = true := (pre_splitW hpre).2
  obtain ⟨d, r, rfl, h1, h2⟩ := hasAllW_cons hsh
  obtain rfl := hasAllW_nil h2
  obtain ⟨xs, rfl, h3⟩ := hasW_list h1
  obtain ⟨ns, rfl⟩ := items_int h3
  have hlen : ns.length ≤ n := by
    unfold OpenLaw.pre at hc
    have h4 : (WTm.not (.lt (.lit (.int (n : Int))) (.len (.arg 0)))).holds [] { args := [.list (ns.map .int)] } = true := by
      have h4 := (holds_andW hc).1
      rw [hn] at h4
      exact h4
    have h5 := condW_of h4 (w_not (w_lt w_lit (w_len_list (w_arg rfl))))
    rw [List.length_map] at h5
    refine Nat.le_of_not_lt fun q => ?_
    have q' : (n : Int) < ((ns.length : Nat) : Int) := by omega
    first
      | (rw [decide_eq_true q'] at h5; exact absurd h5 (by decide))
      | (simp at h5; omega)
  cases hwl with
  | cons w1 w2 =>
    cases w2
    cases w1 with
    | list ho hall => exact ⟨_, _, ns, rfl, rfl, ho, ints_of_wellAll ns _ hall, hlen⟩

theorem post_true (l : OpenLaw) (args : List WData) : l.row.toRowW.claim.post args (.bool true) args = true :=
  postW_of (r := l.row.toRowW) (X := (true == true))
    (show WShape.has [] (.bool true) .bool = true by first | rfl | decide | simp [WShape.has, WShape.arms, WShape.armsAll])
    (show (WTm.eq .res (.lit (.bool true))).value [] { args := args, res := some (.bool true), after := args } = some (.bool (true == true)) from w_eq_bool (w_res rfl) w_lit) rfl

/-! ### the attachment: holds_open's last premise (the goal 'hc' behind k_head) from a wpAny of the law's body -/

/-- the same from a codeAny of the CALL (for a layer whose function contracts speak of calls) -/
theorem attach_call {l : OpenLaw} {n : Nat} {q : Program} {loose : List Str} {XP : (Str → Option Value) → Heap → Prop} {YP : World → Heap → Prop} {d : DefRec}
    (hn : l.most = some n) (hdf : d.params.defaults = [])
    (call : ∀ (w : World) (s₀ s₁ : Shared) (mg mb : Str → Option Value) (fa : Addr) (o : Obj) (pm cd doc : Value) (a : Addr) (vs : List Value) (ns : List Int),
      Ground q loose [] XP w s₀ mg mb s₁.heap → YP w s₁.heap →
      s₁.heap.get? fa = some o → o.data = .func (docDef d.name d.params d.body d.scope pm cd doc) → s₁.heap.CodeRec cd d.name → mg d.name = some (.ref fa) →
      s₁.heap.get? a = some { cls := .type "list", data := .seq vs.toArray } → IntsAre vs ns → ns.length ≤ n → s₁.gens = #[] →
      codeAny (model l.prog w) callerA (.call (.ref fa) ⟨[.ref a], []⟩) (fun r s' => r = .ok (.ret (.bool true)) ∧ OldK s₁.heap s'.heap ∧ s'.os = s₁.os ∧ AllBare s'.gens) s₁) :
    WalkO q loose XP YP l.row.toRowW d [] (fun f vs => PySem.call f vs) := by
  intro w s₀ s₁ mg mb G Y fa o pm cd doc dV kV ho hd hcd hD hmg hg args vals as hpre hlay hrd hwl hlo
  obtain rfl : dV = .none := Dflts.none hD hdf
  obtain rfl : kV = .none := Dflts.noKw hD
  obtain ⟨a, vs, ns, rfl, rfl, hobj, hints, hlen⟩ := script_of hn hpre hwl
  refine enter_call (codeAny_mono (call w s₀ s₁ mg mb fa o pm cd doc a vs ns G Y ho (fd_plain hd) hcd hmg hobj hints hlen hg) fun r s' hq => ?_)
  obtain ⟨rfl, h2, h3, h4⟩ := hq
  exact ⟨.inl ⟨.bool true, .bool true, [], rfl, fun _ => rfl, .bool true, post_true l _, fun _ => ⟨List.Pairwise.nil, fun _ hm => (nomatch hm)⟩⟩, h2, h3, h4⟩


/-! ### rules over ANY heap (no ledger) from facts about the written part K: the library's own take a ledger (News) for what they write -/
section
variable {prog : Program} {w : World} {A : Around} {E : Value → Shared → Prop} {s : Shared} {K : Frag}





/-! the whole heap as the ledger: makes every rule that writes through a ledger a rule over any heap -/
def noObjs (h : Heap) : Heap := { h with objs := #[] }
def ledger (h : Heap) (L d : Addr) : List (Addr × Obj) := (List.range h.objs.size).filterMap fun a => if a = L ∨ a = d then none else (h.get? a).map fun o => (a, o)

end
end Att

namespace L2
open PySem PySem.Spec PyProof.Rows

theorem vals_ints : ∀ {vs : List Value} {ns : List Int}, IntsAre vs ns → Vals (ns.map V.int) vs
  | _, _, .nil => .nil
  | _, _, .cons n t h => .cons ⟨t, rfl⟩ (vals_ints h)

/-- nothing is tracked but the script, known to the object (or it is an object of the module) -/
def Only (H : Hp) : Prop := ∀ b, H b = none ∨ ∃ o xs, H b = some (.frz o (.lst xs))

/-- THE HEAD: the law's promise, at the heap behind the top. F, the promise of the law's def, may use that base is part of the heap (so K.In base, base.Ns mainGlobals mg stand in Mod) -/
theorem law_call {P : Program} {w : World} {K : PySem.W.Frag} {mg mb : Str → Option Value} {CX : CXT} {k : Nat} {fa a : Addr} {fd : FuncData} {x : Str} {sp : Sp} {s₁ : Shared} {vs : List Value} {ns : List Int}
    (KX : K.In s₁.heap) (hns : s₁.heap.Ns mainGlobals mg) (hb : s₁.heap.Ns builtinsNs mb) (hbb : ∀ x : Str, x ≠ "__name__" → mb x = bootBuiltins x) (hlim : s₁.heap.NoLimit) (hg : s₁.gens = #[])
    (ha : s₁.heap.get? a = some { cls := .type "list", data := .seq vs.toArray }) (hi : IntsAre vs ns) (hl : ns.length ≤ sizeLine) (hr : Room k callerA)
    (F : ∀ base : Heap, K.In base → base.Ns mainGlobals mg → FnOk P w K mg base CX k fa fd [x] sp) (hbind : ∀ (s : Shared) (u : Value), BindsTo s fd ⟨[u], []⟩ [(x, u)])
    (hsp : ∀ H : Hp, Only H → SqL K H a (ns.map V.int) → sp [.ref a] H (fun v _ => v = .bl true) fun _ _ _ => False)
    (hCX : ∀ H e s', CX [] H s₁ (fun _ _ _ => False) e s' → False) :
    codeAny (model P w) callerA (.call (.ref fa) ⟨[.ref a], []⟩) (fun r s' => r = .ok (.ret (.bool true)) ∧ OldK s₁.heap s'.heap ∧ s'.os = s₁.os ∧ AllBare s'.gens) s₁ := by
  have rv := vals_ints hi
  have lenV := hi.length
  -- from an abstract heap in which nothing but the script may be tracked
  have core : ∀ H : Hp, Only H → SqL K H a (ns.map V.int) → HOk P w H s₁.heap → (∀ b, H b ≠ none → b = a) → (H a ≠ none → K.lookup a = none) →
      codeAny (model P w) callerA (.call (.ref fa) ⟨[.ref a], []⟩) (fun r s' => r = .ok (.ret (.bool true)) ∧ OldK s₁.heap s'.heap ∧ s'.os = s₁.os ∧ AllBare s'.gens) s₁ := by
    intro H hO hS hok hA hK
    have base_of : ∀ {b : Addr} {o : Obj}, s₁.heap.get? b = some o → H b = none → (hidT s₁.heap H).get? b = some o := fun e n => hidT_get e n
    have noA : ∀ {b : Addr} {o : Obj} {es : Array DictEntry} {ep : Nat}, s₁.heap.get? b = some o → o.data = .dict es ep → H b = none := fun {b o es ep} e d => by
      cases q : H b with
      | none => rfl
      | some u =>
        have e' : b = a := hA b (by rw [q]; simp)
        subst e'
        rw [ha] at e; cases e
        have d' : Data.seq vs.toArray _ = Data.dict es ep := d
        cases d'
    have nsK : ∀ {b : Addr} {m : Str → Option Value}, s₁.heap.Ns b m → (hidT s₁.heap H).Ns b m := fun {b m} ⟨o, es, ep, e, d, r⟩ => ⟨o, es, ep, base_of e (noA e d), d, r⟩
    have hKb : K.In (hidT s₁.heap H) := fun b o e => base_of (KX b o e) (by
      cases q : H b with
      | none => rfl
      | some u =>
        have e' : b = a := hA b (by rw [q]; simp)
        subst e'
        rw [hK (by rw [q]; simp)] at e; cases e)
    have hM : Mod K mg (hidT s₁.heap H) := ⟨hKb, nsK hns, ⟨mb, nsK hb, hbb⟩, let ⟨mc, h1, h2⟩ := hlim; ⟨mc, nsK h1, h2⟩⟩
    have e0 : Env0 P w K mg (hidT s₁.heap H) callerA [] s₁ H := ⟨rfl, hM, fun b o e => of_hidT e, Nat.le_of_eq (hidT_size _ _), trivial, fun b hb => absurd (show b ∈ ([] : List Addr) from hb) (by simp), hok, .of_eq hg⟩
    refine codeAny_mono ((F _ hKb (nsK hns)).run callerA [] s₁ H ⟨[.ref a], []⟩ [.ref a] [.ref a] _ _ hr e0 (hbind s₁ (.ref a)) (.cons rfl .nil) (hsp H hO hS)) fun r s' h => ?_
    cases r with
    | error e => exact (hCX H e s' h).elim
    | ok fl =>
      cases fl with
      | next => exact False.elim h
      | brk => exact False.elim h
      | cont => exact False.elim h
      | ret u =>
        obtain ⟨v, H', os, bare, un, hok', r', q⟩ := h
        have q' : v = .bl true := q
        subst q'
        obtain rfl : u = Value.bool true := r'
        refine ⟨rfl, OldK.of_keep fun b o e => ?_, os, bare⟩
        cases q : H b with
        | none => exact un.keep b o e q (by intro z; exact absurd (show b ∈ ([] : List Addr) from z) (by simp)) (by simp)
        | some u =>
          rcases hO b with z | ⟨ob, xs, z⟩
          · rw [q] at z; cases z
          · have z2 := un.frzs b ob _ z
            obtain ⟨e1, _⟩ := hok b _ z
            obtain ⟨e2, _⟩ := hok' b _ z2
            rw [e] at e1; cases e1
            exact e2
  cases hk : K.lookup a with
  | some o =>
    -- the script is one of the module's own objects
    have e := KX a o hk
    rw [ha] at e
    cases e
    refine core (fun _ => none) (fun _ => .inl rfl) (.inr ⟨_, vs.toArray, _, hk, rfl, rfl, rfl, by rw [List.size_toArray, lenV]; exact hl, by simpa using rv⟩) (fun b u z => by have z' : (none : Option HO) = some u := z; cases z') (fun b z => absurd rfl z) fun z => absurd rfl z
  | none =>
    refine core (fun b => if b = a then some (.frz { cls := .type "list", data := .seq vs.toArray } (.lst (ns.map V.int))) else none) (fun b => ?_) (.inl (.inr ⟨{ cls := .type "list", data := .seq vs.toArray }, if_pos rfl⟩)) (fun b u z => ?_) (fun b z => ?_) fun _ => hk
    · by_cases hb : b = a
      · exact .inr ⟨_, _, if_pos hb⟩
      · exact .inl (if_neg hb)
    · by_cases hb : b = a
      · have z' := (if_pos hb).symm.trans z
        cases z'
        subst hb
        exact ⟨ha, by rw [List.length_map]; exact hl, vs, _, rv, ha⟩
      · have z' := (if_neg hb).symm.trans z
        cases z'
    · by_cases hb : b = a
      · exact hb
      · exact absurd (if_neg hb) z
end L2

namespace L2
open PySem PySem.Spec PyProof.Rows

abbrev KOf {K : PySem.W.Frag} {h : Heap} (_ : K.In h) : PySem.W.Frag := K

/-- the goal that k_head leaves (case hc), from the law's promise. F gives the function object fd (K's own) once, then the promise over every base -/
theorem walk_of {l : PySem.W.OpenLaw} {n k : Nat} {q : Program} {loose : List Str} {XP : (Str → Option Value) → Heap → Prop} {YP : World → Heap → Prop} {d : DefRec} {K : Params → PySem.W.Frag} {CX : World → CXT} {sp : World → Sp} {x : Str}
    (hn : l.most = some n) (hn2 : n ≤ sizeLine) (hdf : d.params.defaults = []) (hr : Room k callerA)
    (hY : ∀ (w : World) (h : Heap), YP w h → (K w.params).In h)
    (F : ∀ (w : World) (mg : Str → Option Value) (fa : Addr) (h : Heap), (K w.params).In h → h.Ns mainGlobals mg → mg d.name = some (.ref fa) →
      ∃ fd : FuncData, (∀ (s : Shared) (u : Value), BindsTo s fd ⟨[u], []⟩ [(x, u)]) ∧
        ∀ base : Heap, (K w.params).In base → base.Ns mainGlobals mg → FnOk l.prog w (K w.params) mg base (CX w) k fa fd [x] (sp w))
    (hsp : ∀ (w : World) (H : Hp) (a : Addr) (ns : List Int), ns.length ≤ n → Only H → SqL (K w.params) H a (ns.map V.int) → sp w [.ref a] H (fun v _ => v = .bl true) fun _ _ _ => False)
    (hCX : ∀ (w : World) (H : Hp) (s : Shared) (e : Value) (s' : Shared), CX w [] H s (fun _ _ _ => False) e s' → False) :
    PySem.W.WalkO q loose XP YP l.row.toRowW d [] (fun f vs => PySem.call f vs) := by
  refine Att.attach_call hn hdf fun w s₀ s₁ mg mb fa o pm cd doc a vs ns G Y ho hd hcd hmg hobj hints hlen hg => ?_
  have KX := hY w _ Y
  obtain ⟨fd, hb, hF⟩ := F w mg fa _ KX G.T.g hmg
  exact law_call KX G.T.g G.T.b G.T.builtins G.T.nolimit hg hobj hints (Nat.le_trans hlen hn2) hr hF hb (fun H hO hS => hsp w H a ns hlen hO hS) fun H e s' => hCX w H s₁ e s'
end L2

/- THE LAST THEOREM (shape; LID, My.* are yours):
   My.Adr: a structure of the addresses that your layer names (classes, functions); My.Txt K t: a structure (Prop) of the equations over K;
   My.txt_mk : {K} {implicit addresses ..} (e1 : nsIn K mainGlobals "law" = some (some (.ref f))) (e2 : K.lookup f = some ⟨oc, od, .func (fnOf "law" "law" params body scope dV kV doc pm an cdv ct), sl⟩) (e3 : codeIn K cdv "law" = true) .. : ∃ t, My.Txt K t

set_option maxRecDepth 100000 in
set_option maxHeartbeats 0 in
theorem PySem.Challenge.cw_LID_holds : PySem.Challenge.rw_LID.Holds := by
  w_on; o_law; k_head; (case hw => w_witness2)
  k_fill
  refine L2.walk_of (l := PySem.Challenge.rw_LID) (n := 63) (k := 40) (x := "script") (CX := fun w => ..) (sp := fun _ => My.sp_law) rfl (by decide) rfl ⟨rfl, by decide, by decide⟩ (fun w h Y => PySem.W.kIn_of Y) ?F ?S ?C
  case F =>
    intro w mg fa h KX G hmg
    have T : ∃ t, My.Txt (L2.KOf KX) t := by
      dsimp only [L2.KOf]                          -- K must stand as «<heap const> w.params» for k_is
      refine' My.txt_mk ?e1 ?e2 ?e3 ..
      (case e1 => PySem.W.k_is)                    -- in the order: a name -> its address -> its object -> its parts
      (case e2 => PySem.W.k_is)
      ..
    obtain ⟨t, T⟩ := T
    have e0 := hmg.symm.trans (PySem.W.mg_of KX G T.law)
    cases e0                                       -- fa is the law's own address
    exact ⟨_, fun s u => .of_eq rfl, fun base kb nb => My.law_fn T kb nb⟩     -- if «.of_eq rfl» comes too early: refine' ⟨_, ?b, fun base kb nb => My.law_fn T kb nb⟩; exact fun s u => .of_eq rfl
  case S => exact fun w H a ns hl hO hS => ..
  case C => exact ..
(the tactic k_is has no namespace: write k_is) -/

/-! SHORT WORDS over the layer: a def of the text, its body, what a loop and a test want. -/
namespace L2
open PySem PySem.Spec PyProof.Rows

/-! ### the text by places -/
/-- the j-th statement of a class's body -/
def inClass (s : Stmt) (j : Nat) : Stmt := match s with
  | .ClassDef _ _ _ body _ _ _ _ _ _ _ => body.getD j (.Pass ⟨0, 0, 0, 0⟩)
  | _ => .Pass ⟨0, 0, 0, 0⟩
def defArgs (s : Stmt) : Arguments := match s with
  | .FunctionDef _ a _ _ _ _ _ _ _ _ => a
  | _ => { posonlyargs := [], args := [], vararg := none, kwonlyargs := [], kw_defaults := [], kwarg := none, defaults := [] }
def defBody (s : Stmt) : List Stmt := match s with
  | .FunctionDef _ _ b _ _ _ _ _ _ _ => b
  | _ => []
def defScope (s : Stmt) : Scope := match s with
  | .FunctionDef _ _ _ _ _ _ sc _ _ _ => sc
  | _ => { kind := .function, names := [], isGenerator := false, isCoroutine := false }

/-! ### no exception leaves a def -/
abbrev CX0 : CXT := fun _ _ _ _ _ _ => False
abbrev E0 : XK := fun _ _ _ => False
theorem pass0 {X : Cx} : Passes CX0 X E0 := fun _ _ _ _ _ _ _ h => h.elim

/-! ### a def (or method) of the text as it stands behind the top -/
structure Fun (K : PySem.W.Frag) (x qual : Str) (st : Stmt) (f : Addr) (fd : FuncData) : Prop where
  ex : ∃ (oc : Value) (od : Option Addr) (kV doc pm : Value) (an : Option Addr) (cdv ct : Value) (osl : Array (Option Value)),
    fd = PySem.W.fnOf x qual (defArgs st) (defBody st) (defScope st) .none kV doc pm an cdv ct ∧ K.lookup f = some ⟨oc, od, .func fd, osl⟩ ∧ PySem.W.codeIn K cdv qual = true
  kp : PySem.W.keepIn K (.ref f) = true
section
variable {P : Program} {w : World} {K : PySem.W.Frag} {mg : Str → Option Value} {base : Heap}
/-- THE RULE for a def: its body as a term of rules, and the reading of that term -/
theorem Fun.ok {x qual : Str} {st : Stmt} {f : Addr} {fd : FuncData} {N ps : List Str} {k : Nat} {sp : Sp} (F : Fun K x qual st f fd) (S : FnScope N ps (defScope st)) (len : ∀ vs H Q E, sp vs H Q E → vs.length = ps.length)
    (hbody : ∀ (cdv : Value) (A : Around) (outer : List Env) (s : Shared) (H : Hp) (vs : List V) (Q : VK) (E : XK), Room k (A.deeper (envOfC qual (defScope st) s.heap.objs.size f cdv)) → sp vs H Q E →
      ∃ t, PSs (cxOf CX0 P w K mg base N qual (defScope st) f cdv A outer s H E).nox (defBody st) t ∧ t { nx := fun _ H' => Q .non H', rt := Q } (start N vs) H) : FnOk P w K mg base CX0 (k + 1) f fd ps sp := by
  obtain ⟨oc, od, kV, doc, pm, an, cdv, ct, osl, rfl, lk, hcd⟩ := F.ex
  refine fn_of lk hcd S len fun A outer s H vs Q E hr hsp => ?_
  obtain ⟨t, h, q⟩ := hbody cdv A outer s H vs Q E hr hsp
  exact ⟨t, h.nox, q⟩
/-- how its arguments bind (no defaults): h is «fun _ _ _ _ _ _ us hl => match us, hl with | [_, _], _ => rfl», one _ a parameter -/
theorem Fun.binds {x qual : Str} {st : Stmt} {f : Addr} {fd : FuncData} {ps : List Str} (F : Fun K x qual st f fd)
    (h : ∀ (kV doc pm : Value) (an : Option Addr) (cdv ct : Value) (us : List Value), us.length = ps.length → bindArgs (PySem.W.fnOf x qual (defArgs st) (defBody st) (defScope st) .none kV doc pm an cdv ct) ⟨us, []⟩ = pure (ps.zip us)) : Binds K fd ps [] := by
  obtain ⟨oc, od, kV, doc, pm, an, cdv, ct, osl, rfl, lk, hcd⟩ := F.ex
  exact .all (h kV doc pm an cdv ct)
theorem fun_mk {x qual : Str} {st : Stmt} {f : Addr} {oc : Value} {od an : Option Addr} {osl : Array (Option Value)} {kV doc pm cdv ct : Value} (l : K.lookup f = some ⟨oc, od, .func (PySem.W.fnOf x qual (defArgs st) (defBody st) (defScope st) .none kV doc pm an cdv ct), osl⟩)
    (c : PySem.W.codeIn K cdv qual = true) (k : PySem.W.keepIn K (.ref f) = true) : Fun K x qual st f (PySem.W.fnOf x qual (defArgs st) (defBody st) (defScope st) .none kV doc pm an cdv ct) := ⟨⟨oc, od, kV, doc, pm, an, cdv, ct, osl, rfl, l, c⟩, k⟩
end
theorem hu_of {A : Around} {k : Nat} (hr : Room k A) : A.units + 1 < cLine := Nat.lt_of_le_of_lt (Nat.add_le_add_left (by decide : 1 ≤ 64) _) hr.units
theorem small1000 {n : Nat} (h : n ≤ 1000) : n < sizeLine := Nat.lt_of_le_of_lt h (by decide)

/-! ### expressions in short: the name that stands in the i-th slot -/
section
variable {X : Cx}
theorem pv (i : Nat) {x : Str} {pos : Pos} (hN : X.N[i]? = some x := by rfl) (hv : Vis X.env.scope x := by first | exact Or.inl rfl | exact Or.inr (Or.inl rfl) | exact Or.inr (Or.inr rfl)) (hd : (x == ("__debug__" : Str)) = false := by decide)
    (hcd : (x == ("__classdict__" : Str)) = false := by decide) : PE X (.Name x pos) (tVar i) := pe_var hN hv hd hcd
end

/-! ### tests -/
theorem iteF {A B : Prop} (h : B) : if false = true then A else B := by
  rw [if_neg Bool.false_ne_true]
  exact h
theorem iteT {A B : Prop} (h : A) : if true = true then A else B := by
  rw [if_pos rfl]
  exact h
theorem ite2 {c A B : Prop} [Decidable c] (h1 : c → A) (h2 : ¬ c → B) : if c then A else B := by
  by_cases h : c
  · rw [if_pos h]
    exact h1 h
  · rw [if_neg h]
    exact h2 h
theorem iteNS {c A B : Prop} [Decidable c] (hc : c) (h : B) : if (!decide c) = true then A else B := by
  rw [decide_eq_true hc]
  exact iteF h

/-! ### heaps -/
/-- all that was tracked is as it was -/
def Same (H H' : Hp) : Prop := ∀ b o, H b = some o → H' b = some o
theorem Same.refl (H : Hp) : Same H H := fun _ _ h => h
theorem Same.trans {H H1 H2 : Hp} (a : Same H H1) (b : Same H1 H2) : Same H H2 := fun c o h => b c o (a c o h)
theorem Same.free {H H' : Hp} (e : Same H H') {l : Addr} (h : H' l = Option.none) : H l = Option.none := by
  cases q : H l with
  | none => rfl
  | some o =>
    rw [e l o q] at h
    cases h
theorem Same.seq {K : PySem.W.Frag} {H H' : Hp} {a : Addr} {xs : List V} (e : Same H H') (h : SqL K H a xs) : SqL K H' a xs := by
  rcases h with (h | ⟨o, h⟩) | h
  · exact .inl (.inl (e _ _ h))
  · exact .inl (.inr ⟨o, e _ _ h⟩)
  · exact .inr h

/-! ### a dict's pairs: keys that differ -/
section
variable {κ : Type} [DecidableEq κ]
theorem dropK_pos {p : κ × V} {r : List (κ × V)} {k : κ} (e : p.1 = k) : dropK (p :: r) k = dropK r k := by
  unfold dropK
  rw [List.filter_cons, if_neg (by simp [e])]
theorem dropK_neg {p : κ × V} {r : List (κ × V)} {k : κ} (e : ¬ p.1 = k) : dropK (p :: r) k = p :: dropK r k := by
  unfold dropK
  rw [List.filter_cons, if_pos (by simp [e])]
theorem dropK_no : ∀ {kvs : List (κ × V)} {k : κ}, ¬ k ∈ kvs.map (·.1) → dropK kvs k = kvs
  | [], _, _ => rfl
  | p :: r, k, h => by
    have h' : ¬ k ∈ r.map (·.1) := fun m => by
      obtain ⟨q, hq, e⟩ := List.mem_map.mp m
      exact h (List.mem_map.mpr ⟨q, List.mem_cons.mpr (Or.inr hq), e⟩)
    rw [dropK_neg fun e => h (List.mem_map.mpr ⟨p, List.mem_cons.mpr (Or.inl rfl), e⟩), dropK_no h']
theorem dropK_mem {kvs : List (κ × V)} {k : κ} {p : κ × V} (h : p ∈ dropK kvs k) : p ∈ kvs := (List.mem_filter.mp h).1
end
end L2

set_option maxHeartbeats 4000000
/-! ### exceptions of one's own classes: raised, passed on, caught -/
namespace L2
open PySem PySem.Spec PyProof.Rows

/-- how an exception lies behind a call: it flies over B, which has all that is tracked and all that stood ahead but the callers' frames -/
def CXx (P : Program) (w : World) : CXT := fun outer H s E e s' => ∃ (ea : Addr) (cls a0 : Value) (B : Heap) (H' : Hp),
  e = .ref ea ∧ s'.os = s.os ∧ AllBare s'.gens ∧ Un (frs outer) [] H H' s.heap s'.heap ∧ HOk P w H' s'.heap ∧ Heap.FlyingW B outer ea cls a0 s'.heap ∧
  (∀ b u, H' b = some u → ∃ o, B.get? b = some o) ∧ (∀ b o, s.heap.get? b = some o → b ∉ frs outer → ∃ o', B.get? b = some o') ∧ E cls none H'

section
variable {X : Cx} {pins : List (Addr × Obj)} {σ : St} {H : Hp} {s s' : Shared} {E : XK} {e : Value}
/-- a frame of a def -/
structure Own (X : Cx) : Prop where
  st : X.stack = X.env :: X.outer
  fr : X.env.frame = some X.env.locals
  ex : X.ex = []

end


/-- a class of one's own over a built-in exception, as the top has made it -/
structure ExcC (K : PySem.W.Frag) (mg : Str → Option Value) (x : Str) (C : Addr) (bm : List Value) (newId : String) : Prop where
  at_ : mg x = some (.ref C)
  ex : PySem.W.excIn K C bm newId = true
section
variable {P : Program} {w : World} {K : PySem.W.Frag} {mg : Str → Option Value} {base : Heap} {N : List Str} {qual : Str} {scope : Scope} {f : Addr} {cd : Value} {A : Around} {outer : List Env} {s₀ : Shared} {H₀ : Hp} {E : XK}
/-- raise C('..') in a def -/
def tRaise (E : XK) (C : Addr) : TS := fun _ _ H => E (.ref C) none H
end
end L2

/-! ### try, except: a body that may raise, its handlers -/
namespace L2
open PySem PySem.Spec PyProof.Rows

/-- what has been raised in the body of a try: by a call made where the state was s, σ, H -/
def trX (X : Cx) (R : Value → St → Hp → Prop) (e : Value) (s' : Shared) : Prop :=
  ∃ (pins' : List (Addr × Obj)) (σ : St) (H : Hp) (s : Shared), Inv X pins' σ H s ∧ CXx X.prog X.w X.stack H s (fun cls _ H' => R cls σ H') e s'
/-- the context with further pins -/
abbrev Cx.pin (X : Cx) (pins : List (Addr × Obj)) : Cx := { X with pn := X.pn ++ pins }
/-- the context of a try's body -/
abbrev Cx.tr (X : Cx) (pins : List (Addr × Obj)) (R : Value → St → Hp → Prop) : Cx := { X with pn := X.pn ++ pins, xe := trX (X.pin pins) R }
/-- the context of an except suite -/
abbrev Cx.held (X : Cx) (ea : Addr) : Cx := { X with A := X.A.mark (some (.ref ea)), calm := false, xe := fun _ _ => False }

section
variable {X : Cx} {pins pins' : List (Addr × Obj)} {σ : St} {H : Hp} {s : Shared} {R : Value → St → Hp → Prop}
end

/-- an exception of class cls has been caught: s is the state, whose tracked part is H -/
structure Cau (X : Cx) (pins : List (Addr × Obj)) (σ : St) (H : Hp) (ea : Addr) (cls : Value) (s : Shared) : Prop where
  ex : ∃ (H1 : Hp) (s0 : Shared) (B : Heap) (a0 : Value), Inv X pins σ H1 s0 ∧ s.os = s0.os ∧ AllBare s.gens ∧ Un (frs X.stack) [] H1 H s0.heap s.heap ∧ HOk X.prog X.w H s.heap ∧ Heap.FlyingW B X.stack ea cls a0 s.heap ∧
    (∀ b u, H b = some u → ∃ o, B.get? b = some o) ∧ ∀ b o, s0.heap.get? b = some o → b ∉ frs X.stack → ∃ o', B.get? b = some o'


section
variable {X : Cx} {pins : List (Addr × Obj)} {σ : St} {H : Hp} {s : Shared} {ea : Addr} {cls : Value}
end

/-- what the handlers do with an exception of class cls -/
def PH (X : Cx) (hs : List ExceptHandler) (th : Value → TS) : Prop :=
  ∀ (pins : List (Addr × Obj)) (s : Shared) (σ : St) (H : Hp) (D : Ends) (ea : Addr) (cls : Value), Cau X pins σ H ea cls s → th cls D σ H → wpAny (model X.prog X.w) X.A (handleBy (.ref ea) X.env hs) (SP X pins D) X.xe s

/-- try: body, then the handlers; tb: the body's reading, for whatever is wanted of its exceptions -/
def tTry (tb : (Value → St → Hp → Prop) → TS) (th : Value → TS) : TS := fun D σ H => tb (fun cls σ' H' => th cls D σ' H') D σ H

/-- a suite without a name -/
def tHit (K : PySem.W.Frag) (C : Addr) (ts : TS) (tr : Value → TS) : Value → TS := fun cls D σ H => ∃ b, PySem.W.exmOne K cls (.ref C) = some b ∧ if b = true then ts D σ H else tr cls D σ H

/-- an exception object of the class at C -/
def excO (a C : Addr) : HO := .ext fun h => ∃ o vs, h.get? a = some o ∧ o.cls = .ref C ∧ o.data = .fields vs
section
variable {X : Cx} {pins : List (Addr × Obj)} {σ : St} {H : Hp} {s : Shared} {ea C : Addr}
end

/-- a suite with a name -/
def tHitAs (K : PySem.W.Frag) (C : Addr) (i : Nat) (ts : TS) (tr : Value → TS) : Value → TS := fun cls D σ H => ∃ b, PySem.W.exmOne K cls (.ref C) = some b ∧ if b = true then
    ∃ Cx, cls = .ref Cx ∧ ∀ ea, H ea = none → ts { nx := fun σ' H' => D.nx (σ'.set i none) H', rt := D.rt, bk := fun σ' H' => D.bk (σ'.set i none) H', ct := fun σ' H' => D.ct (σ'.set i none) H' } (σ.set i (some (.ref ea))) (upd H ea (excO ea Cx))
  else tr cls D σ H

/-! a call of a class in a try's body: what is wanted of its exceptions hangs on the names' values there -/
def PassS (CX : CXT) (X : Cx) (E : St → XK) : Prop := ∀ (pins : List (Addr × Obj)) (σ : St) (H : Hp) (s : Shared) (e : Value) (s' : Shared), Inv X pins σ H s → CX X.stack H s (E σ) e s' → X.xe e s'
def tMakeS (C : Addr) (sp : Sp) (E : St → XK) (t : TA) : TE := fun σ H Q => t σ H fun vs H1 => ∀ x dx, H1 x = none → H1 dx = none → dx ≠ x →
  sp (.ref x :: vs) (upd (upd H1 dx (.own x)) x (.ins C dx [])) (fun v H2 => v = .non ∧ Q (.ref x) H2) (E σ)
section
variable {X : Cx} {CX : CXT} {k : Nat} {f C : Addr} {fd : FuncData} {ps : List Str} {sp : Sp} {E : St → XK} {x : Str} {p pos : Pos} {e : Expr} {es : List Expr} {t : TA}
end
end L2

/-! ### isinstance of an exception of one's own class -/
namespace L2
open PySem PySem.Spec PyProof.Rows PySem.W Builtin Builtin.ObjectAttr Builtin.Getset_descriptor

/-- what is asked of the class of an exception -/
structure ExcA (K : Frag) (C : Addr) : Prop where
  ga : findIn K (.ref C) "__getattribute__" = some (some (.builtin "BaseException.__getattribute__"))
  gx : findIn K (.ref C) "__getattr__" = some none
  ca : findIn K (.ref C) "__class__" = some (some (.builtin "object.__class__"))
  cn : specialIn K (.builtin "object.__class__") "__get__" = some (some (.builtin "getset_descriptor.__get__"))
  ct : takesIn K (.builtin "object.__class__") = some true
  mo : mroIn K C (.type "object") = some true
  mb : mroIn K C (.type "BaseException") = some true
  cl : (clsIn K C).isSome = true

section
variable {K : Frag} {C x : Addr} {h : Heap} {M : Model}
variable {prog : Program} {w : World} {A : Around} {E : Value → Shared → Prop} {s : Shared}
end

/-- isinstance(error, C), isinstance(error, (C, D)) -/
def rIsi (K : Frag) : List V → Hp → VK → Prop := fun vs H Q => ∃ a C b, H a = some (excO a C) ∧ ExcA K C ∧ Q (.bl b) H ∧
  ((∃ D, vs = [.ref a, .ref D] ∧ kitOne K (.ref C) (.ref D) = some b) ∨ (∃ T, vs = [.ref a, .ty T] ∧ kitOne K (.ref C) (.type T) = some b) ∨
   ∃ (t : Addr) (ds : List Addr), vs = [.ref a, .ref t] ∧ H t = some (.tup (ds.map V.ref)) ∧ kitAny K (.ref C) (ds.map Value.ref) = some b)
end L2

/-! ### The sort of fewer than 64 items, as the tree of its questions: it puts them in order -/
namespace Sx
open PySem.W PyProof.Rows

/-- what the tree gives where the question (i, j) is answered by lt i j; each place asked lies below N -/
def Wp {α : Type} (N : Nat) (lt : Nat → Nat → Bool) : KasT α → (α → Prop) → Prop
  | .ret a, Q => Q a
  | .ask i j k, Q => i < N ∧ j < N ∧ Wp N lt (k (lt i j)) Q
theorem Wp.bind {α β : Type} {N : Nat} {lt : Nat → Nat → Bool} {f : α → KasT β} {Q : β → Prop} : ∀ (t : KasT α), Wp N lt t (fun a => Wp N lt (f a) Q) → Wp N lt (t.bind f) Q
  | .ret _, h => h
  | .ask _ _ k, ⟨h1, h2, h⟩ => ⟨h1, h2, Wp.bind (k _) h⟩

section
variable {O : KeyOrd} (key : Nat → O.α)
/-- the key at a place -/
def KP (p : Array Nat) (i : Nat) : O.α := key (p[i]?.getD 0)
def Up (p : Array Nat) (k : Nat) : Prop := ∀ i j, i ≤ j → j < k → O.kle (KP key p i) (KP key p j)
def Down (p : Array Nat) (k : Nat) : Prop := ∀ i j, i ≤ j → j < k → O.kle (KP key p j) (KP key p i)
def ltK (i j : Nat) : Bool := O.blt (key i) (key j)
/-- p is the numbers below N in some order -/
def PB (N : Nat) (p : Array Nat) : Prop := p.Perm (List.range N).toArray
end
theorem PB.size {N : Nat} {p : Array Nat} (h : PB N p) : p.size = N := by
  have := Array.Perm.size_eq h
  simpa using this
theorem PB.below {N : Nat} {p : Array Nat} (h : PB N p) {i : Nat} (hi : i < N) : p.getD i 0 < N := by
  have hs := h.size
  have hi' : i < p.size := by omega
  have e : p.getD i 0 = p[i] := by simp [Array.getD, hi']
  have hm : p[i] ∈ (List.range N).toArray := (Array.Perm.mem_iff h).mp (Array.getElem_mem hi')
  rw [e]
  simpa using hm
theorem getD_eq (p : Array Nat) (i : Nat) : p.getD i 0 = p[i]?.getD 0 := by simp
theorem PB.rev {N : Nat} {p : Array Nat} (h : PB N p) (i j : Nat) : PB N (kas_rev p i j) := (mirror_perm _ _ _ _).trans h
theorem PB.bub {N : Nat} {p : Array Nat} (h : PB N p) (i j : Nat) : PB N (bubble p i j) := (bubble_perm _ _ _).trans h

section
variable {O : KeyOrd} {key : Nat → O.α} {N : Nat} {p : Array Nat}
theorem KP_rev {i j : Nat} (hj : j ≤ p.size) (k : Nat) : KP key (kas_rev p i j) k = if i ≤ k ∧ k < j then KP key p (i + j - 1 - k) else KP key p k := by
  have e := getElem?_mirror_all (xs := p) (i := i) hj k
  unfold KP kas_rev
  rw [e]
  by_cases h : i ≤ k ∧ k < j
  · rw [if_pos h, if_pos h]
  · rw [if_neg h, if_neg h]
theorem KP_bub {src d : Nat} (hs : src < p.size) (hd : d ≤ src) (k : Nat) :
    KP key (bubble p src d) k = if k = src - d then KP key p src else if src - d < k ∧ k ≤ src then KP key p (k - 1) else KP key p k := by
  have e := getElem?_bubble hs d hd k
  unfold KP
  rw [e]
  by_cases h : k = src - d
  · rw [if_pos h, if_pos h]
  · rw [if_neg h, if_neg h]
    by_cases h2 : src - d < k ∧ k ≤ src
    · rw [if_pos h2, if_pos h2]
    · rw [if_neg h2, if_neg h2]
/-- a stretch of alike keys turned about stays -/
theorem KP_rev_alike {i j : Nat} (hj : j ≤ p.size) (he : ∀ k, i ≤ k → k < j → KP key p k = KP key p (j - 1)) (k : Nat) : KP key (kas_rev p i j) k = KP key p k := by
  rw [KP_rev hj]
  by_cases h : i ≤ k ∧ k < j
  · rw [if_pos h, he _ (by omega) (by omega), he k h.1 h.2]
  · rw [if_neg h]
theorem lt_true {i j : Nat} (h : ltK key (p.getD i 0) (p.getD j 0) = true) : O.klt (KP key p i) (KP key p j) := by
  rw [getD_eq, getD_eq] at h
  exact h
theorem lt_false {i j : Nat} (h : ltK key (p.getD i 0) (p.getD j 0) = false) : O.kle (KP key p j) (KP key p i) := by
  rw [getD_eq, getD_eq] at h
  exact h
theorem Up.grow {n : Nat} (h : Up key p n) (h1 : 1 ≤ n) (hn : O.kle (KP key p (n - 1)) (KP key p n)) : Up key p (n + 1) := fun i j hij hj => by
  by_cases e : j < n
  · exact h i j hij e
  · obtain rfl : j = n := by omega
    by_cases e2 : i = j
    · subst e2; exact KeyOrd.kle_refl _
    · exact KeyOrd.kle_trans (h i (j - 1) (by omega) (by omega)) hn
theorem Down.grow {n : Nat} (h : Down key p n) (h1 : 1 ≤ n) (hn : O.kle (KP key p n) (KP key p (n - 1))) : Down key p (n + 1) := fun i j hij hj => by
  by_cases e : j < n
  · exact h i j hij e
  · obtain rfl : j = n := by omega
    by_cases e2 : i = j
    · subst e2; exact KeyOrd.kle_refl _
    · exact KeyOrd.kle_trans hn (h i (j - 1) (by omega) (by omega))

theorem place_wp {k : Nat} {Q : Nat → Prop} (hp : PB N p) (hk : k < N) (hu : Up key p k) : ∀ (f l r : Nat), l ≤ r → r ≤ k → r - l ≤ f → (∀ i, i < l → O.kle (KP key p i) (KP key p k)) → (∀ i, r ≤ i → i < k → O.klt (KP key p k) (KP key p i)) →
    (∀ l, l ≤ k → (∀ i, i < l → O.kle (KP key p i) (KP key p k)) → (∀ i, l ≤ i → i < k → O.klt (KP key p k) (KP key p i)) → Q l) → Wp N (ltK key) (kas_place p k f l r) Q
  | 0, l, r, a, b, c, lo, hi, h => h l (by omega) lo (fun i x y => hi i (by omega) y)
  | f + 1, l, r, a, b, c, lo, hi, h => by
    unfold kas_place
    by_cases e : l ≥ r
    · rw [if_pos e]
      exact h l (by omega) lo (fun i x y => hi i (by omega) y)
    · rw [if_neg e]
      refine ⟨hp.below hk, hp.below (by omega), ?_⟩
      cases d : ltK key (p.getD k 0) (p.getD ((l + r) / 2) 0) with
      | true => exact place_wp hp hk hu f l ((l + r) / 2) (by omega) (by omega) (by omega) lo (fun i x y => KeyOrd.klt_of_klt_of_kle (lt_true d) (hu _ _ x y)) h
      | false => exact place_wp hp hk hu f ((l + r) / 2 + 1) r (by omega) b (by omega) (fun i x => KeyOrd.kle_trans (hu i ((l + r) / 2) (by omega) (by omega)) (lt_false d)) hi h
end
end Sx

/-! ### lists of tuples of ints: the order, the comparison, list.sort -/
namespace Sx
open PySem PySem.W PyProof.Rows

theorem lex_irr : ∀ a : List Int, HT.lexLt a a = false
  | [] => rfl
  | x :: xs => by rw [HT.lexLt_cons, if_pos rfl]; exact lex_irr xs
theorem lex_trans : ∀ a b c : List Int, HT.lexLt a b = true → HT.lexLt b c = true → HT.lexLt a c = true
  | [], _, [], h1, h2 => by
    rename_i b
    cases b with
    | nil => exact h1
    | cons y ys => rw [HT.lexLt_cons_nil] at h2; cases h2
  | [], _, _ :: _, _, _ => rfl
  | x :: xs, [], _, h1, _ => by rw [HT.lexLt_cons_nil] at h1; cases h1
  | x :: xs, y :: ys, [], _, h2 => by rw [HT.lexLt_cons_nil] at h2; cases h2
  | x :: xs, y :: ys, z :: zs, h1, h2 => by
    rw [HT.lexLt_cons] at h1 h2 ⊢
    by_cases e1 : x = y
    · subst e1
      rw [if_pos rfl] at h1
      by_cases e2 : x = z
      · rw [if_pos e2] at h2 ⊢
        exact lex_trans xs ys zs h1 h2
      · rw [if_neg e2] at h2 ⊢
        exact h2
    · rw [if_neg e1] at h1
      have l1 : x < y := of_decide_eq_true h1
      by_cases e2 : y = z
      · subst e2
        rw [if_neg e1]
        exact h1
      · rw [if_neg e2] at h2
        have l2 : y < z := of_decide_eq_true h2
        rw [if_neg (by omega)]
        exact decide_eq_true (by omega)
theorem lex_tot : ∀ a b : List Int, HT.lexLt a b = false → HT.lexLt b a = false → a = b
  | [], [], _, _ => rfl
  | [], _ :: _, h, _ => by rw [HT.lexLt_nil_cons] at h; cases h
  | _ :: _, [], _, h => by rw [HT.lexLt_nil_cons] at h; cases h
  | x :: xs, y :: ys, h1, h2 => by
    rw [HT.lexLt_cons] at h1 h2
    by_cases e : x = y
    · subst e
      rw [if_pos rfl] at h1 h2
      rw [lex_tot xs ys h1 h2]
    · rw [if_neg e] at h1
      rw [if_neg (Ne.symm e)] at h2
      have l1 : ¬ x < y := of_decide_eq_false h1
      have l2 : ¬ y < x := of_decide_eq_false h2
      omega
theorem lex_neg (a b c : List Int) (h : HT.lexLt a c = true) : HT.lexLt a b = true ∨ HT.lexLt b c = true := by
  cases e1 : HT.lexLt a b with
  | true => exact .inl rfl
  | false =>
    refine .inr ?_
    cases e2 : HT.lexLt b a with
    | true => exact lex_trans b a c e2 h
    | false =>
      have e := lex_tot a b e1 e2
      subst e
      exact h
/-- the order of tuples of ints -/
def lexO : KeyOrd where
  α := List Int
  blt := HT.lexLt
  irrefl := lex_irr
  trans := lex_trans
  negTrans := lex_neg
  total := lex_tot


section
variable {prog : Program} {w : World} {A : Around} {E : Value → Shared → Prop} {s : Shared}
/-- two tuples of ints compared as list.sort does -/
theorem kat_ints {b fin : Bool} {Q : Bool → Shared → Prop} : ∀ {vs us : List Value} {ns ms : List Int} (i : Nat), IntsAre vs ns → IntsAre us ms → fin = decide (ns.length < ms.length) → Q (HT.lexLt ns ms) s →
    KatLex prog w A b fin Q (vs.zip us) i s
  | _, _, _, _, i, .nil, .nil, e, h => by
    have e' : fin = false := e
    subst e'
    exact kat_nil h
  | _, _, _, _, i, .nil, .cons _ _ _, e, h => by
    have e' : fin = true := by rw [e]; exact decide_eq_true (by simp)
    subst e'
    exact kat_nil h
  | _, _, _, _, i, .cons _ _ _, .nil, e, h => by
    have e' : fin = false := by rw [e]; exact decide_eq_false (by simp)
    subst e'
    exact kat_nil h
  | _, _, _, _, i, .cons a t ha, .cons c u hc, e, h => by
    rw [List.zip_cons_cons]
    rw [HT.lexLt_cons] at h
    refine kat_cons (wpAny_eqBool_int (kat_go (fun q => ?_) fun q => ?_))
    · have ac : a = c := eq_of_beq q
      rw [if_pos ac] at h
      exact kat_yes (kat_ints (i + 1) ha hc (by rw [e]; simp) h)
    · have ac : ¬ a = c := by simpa using q
      rw [if_neg ac] at h
      refine kat_no ?_
      cases (b && i == 0) with
      | true => exact oneLt_int h
      | false => exact kat_one _ _ (PyProof.Rows.lt_int h)

/-- a tuple of ints stands at a -/
def TupI (h : Heap) (a : Addr) (t : List Int) : Prop := ∃ o its n, h.get? a = some o ∧ o.cls = .type "tuple" ∧ o.data = .seq its n ∧ IntsAre its.toList t
theorem TupI.keep {h h' : Heap} {a : Addr} {t : List Int} (x : TupI h a t) (k : ∀ o, h.get? a = some o → h'.get? a = some o) : TupI h' a t :=
  let ⟨o, its, n, e, r⟩ := x; ⟨o, its, n, k o e, r⟩
theorem lt_tups {x y : Addr} {b : Bool} {t u : List Int} {Q : Bool → Shared → Prop} (hx : TupI s.heap x t) (hy : TupI s.heap y u) (h : Q (HT.lexLt t u) s) : wpAny (model prog w) A (keyLt' (tuples' b) (.ref x) (.ref y)) Q E s := by
  obtain ⟨ox, xs, n, ex, _, dx, ix⟩ := hx
  obtain ⟨oy, ys, k, ey, _, dy, iy⟩ := hy
  refine kat_lt ex dx ey dy (kat_ints 0 ix iy ?_ h)
  rw [← ix.length, ← iy.length, Array.length_toList, Array.length_toList]
/-- the kind of keys that list.sort finds: tuples whose first items are ints -/
theorem kind_tups {rs : List Addr} {ts : List (List Int)} {Q : SortKind → Shared → Prop} (h2 : 0 < rs.length) (hp : Paired (fun r t => TupI s.heap r t ∧ t ≠ []) rs ts) (h : ∀ b, Q (tuples' b) s) :
    wpAny (model prog w) A (keyKind' (rs.map Value.ref).toArray) Q E s := by
  have all : ∃ fs : List Value, KatTups s.heap (rs.map Value.ref) fs ∧ fs.length = rs.length ∧ ∀ v ∈ fs, ∃ i t, v = Value.int i t := by
    clear h h2
    induction hp with
    | nil => exact ⟨[], trivial, rfl, fun v hv => nomatch hv⟩
    | @cons r t rs ts hr _ ih =>
      obtain ⟨fs, k1, k2, k3⟩ := ih
      obtain ⟨⟨o, its, n, e, c, d, ii⟩, hne⟩ := hr
      cases t with
      | nil => exact absurd rfl hne
      | cons i t =>
        generalize hL : its.toList = L at ii
        cases ii with
        | cons _ tk ii' =>
          have h0 : its[0]? = some (Value.int i tk) := by rw [← Array.getElem?_toList, hL]; rfl
          refine ⟨Value.int i tk :: fs, ⟨⟨r, o, its, n, rfl, e, c, d, h0⟩, k1⟩, by rw [List.length_cons, List.length_cons, k2], fun v hv => ?_⟩
          rcases List.mem_cons.mp hv with rfl | hv
          · exact ⟨i, tk, rfl⟩
          · exact k3 v hv
  obtain ⟨fs, k1, k2, k3⟩ := all
  refine kat_kind (T := .type "int") k1 (by omega) (fun v hv => ?_) (by decide) (h _)
  obtain ⟨i, tk, rfl⟩ := k3 v hv
  exact Looks.of_pure rfl

/-- what list.sort leaves: the addresses of the tuples in the order of the tuples -/
structure Sorted (rs : List Addr) (ts : List (List Int)) (rs' : List Addr) (ts' : List (List Int)) : Prop where
  perm : (rs'.zip ts').Perm (rs.zip ts)
  len : rs'.length = ts'.length
  ord : ts'.Pairwise fun a b => HT.lexLt b a = false
end
end Sx

namespace Sx
open PySem PySem.W PyProof.Rows
section
variable {prog : Program} {w : World} {A : Around} {E : Value → Shared → Prop} {s : Shared}
theorem pair_at {α β : Type} {F : α → β → Prop} : ∀ {l₁ : List α} {l₂ : List β} {i : Nat} {a : α}, Paired F l₁ l₂ → l₁[i]? = some a → ∃ b, l₂[i]? = some b ∧ F a b
  | _, _, _, _, .nil, e => by simp at e
  | _, _, 0, _, .cons h _, e => by simp at e; subst e; exact ⟨_, rfl, h⟩
  | _, _, i + 1, a, .cons _ t, e => by
    obtain ⟨b, h1, h2⟩ := pair_at (i := i) (a := a) t (by simpa using e)
    exact ⟨b, by simpa using h1, h2⟩
end
end Sx

/-! ### the keys of a dict, whatever they are, one after another -/
namespace Sx
open PySem PySem.W PySem.Calls PyProof.Rows
/-- a plain dict with these entries stands at d -/
def DictE (h : Heap) (d : Addr) (es : Array DictEntry) (ep : Nat) : Prop := ∃ o, h.get? d = some o ∧ o.ExactDict ∧ o.data = .dict es ep
section
variable {prog : Program} {w : World} {A : Around} {E : Value → Shared → Prop} {s : Shared} {d it : Addr} {es : Array DictEntry} {ep i : Nat}
end
end Sx

/-! ### sorted(..) of a list of tuples of ints, of a dict whose keys are such -/
namespace L2
open PySem PySem.Spec PyProof.Rows
/-- tuples of ints, none empty -/
abbrev TupsH (H : Hp) (rs : List Addr) (ts : List (List Int)) : Prop := Paired (fun r t => H r = some (.tup (t.map V.int)) ∧ t ≠ []) rs ts
section
variable {X : Cx} {pins : List (Addr × Obj)} {σ : St} {H : Hp} {s : Shared}
theorem Inv.tupI (I : Inv X pins σ H s) {r : Addr} {t : List Int} (e : H r = some (.tup (t.map V.int))) : Sx.TupI s.heap r t := by
  obtain ⟨_, its, rv, o, h1, h2, n, h3⟩ := (show ObjOk X.prog X.w H s.heap r (.tup (t.map V.int)) from I.hok r _ e)
  exact ⟨o, its.toArray, n, h1, h2, h3, by simpa using intsAre_of rv⟩
theorem Inv.tupsI (I : Inv X pins σ H s) : ∀ {rs : List Addr} {ts : List (List Int)}, TupsH H rs ts → Paired (fun r t => Sx.TupI s.heap r t ∧ t ≠ []) rs ts
  | _, _, .nil => .nil
  | _, _, .cons h t => .cons ⟨I.tupI h.1, h.2⟩ (I.tupsI t)
theorem vals_refs : ∀ (rs : List Addr), Vals (rs.map V.ref) (rs.map Value.ref)
  | [] => .nil
  | _ :: r => .cons rfl (vals_refs r)
theorem refs_of : ∀ {rs : List Addr} {us : List Value}, Vals (rs.map V.ref) us → us = rs.map Value.ref
  | [], _, h => by rw [List.map_nil] at h; cases h; rfl
  | r :: rs, _, h => by
    rw [List.map_cons] at h
    cases h with
    | cons h1 h2 => rw [refs_of h2, List.map_cons]; cases h1; rfl
end
section
variable {X : Cx}
end
end L2

/-! ### the mathematics: a list of ties looked through, sorted lists -/
namespace Mt
def lo (a b : Int) : Int := if b < a then b else a
def hi (a b : Int) : Int := if b > a then b else a
abbrev Tri := Int × Int × Int
/-- an end is no point, or both are alike -/
def bad (m a b : Int) : Prop := a < 0 ∨ m ≤ a ∨ b < 0 ∨ m ≤ b ∨ a = b
instance (m a b : Int) : Decidable (bad m a b) := by unfold bad; infer_instance
def tri (t : Tri) : List Int := [t.1, t.2.1, t.2.2]
/-- the tie's ends, the lesser first, and its weight -/
def key (t : Tri) : List Int := [lo t.1 t.2.1, hi t.1 t.2.1]
def row (t : Tri) : List Int := key t ++ [t.2.2]
inductive Res | bad | twice | good
  deriving DecidableEq
/-- what becomes of a list of ties: seen are the keys ahead -/
def scan (m : Int) : List Tri → List (List Int) → Res
  | [], _ => .good
  | t :: r, seen => if bad m t.1 t.2.1 then .bad else if seen.any (fun k => decide (k = key t)) = true then .twice else scan m r (seen ++ [key t])
theorem scan_cons (m : Int) (t : Tri) (r : List Tri) (seen : List (List Int)) : scan m (t :: r) seen = if bad m t.1 t.2.1 then .bad else if seen.any (fun k => decide (k = key t)) = true then .twice else scan m r (seen ++ [key t]) := rfl

theorem perm_sorted_eq {α : Type} {R : α → α → Prop} (anti : ∀ a b, R a b → R b a → a = b) : ∀ {l m : List α}, l.Perm m → l.Pairwise R → m.Pairwise R → l = m
  | [], m, h, _, _ => by rw [List.nil_perm.mp h]
  | a :: l, [], h, _, _ => by have := h.length_eq; simp at this
  | a :: l, b :: m, h, hl, hm => by
    rw [List.pairwise_cons] at hl hm
    have e : a = b := by
      have ha : a ∈ b :: m := h.mem_iff.mp (.head _)
      have hb : b ∈ a :: l := h.mem_iff.mpr (.head _)
      rcases List.mem_cons.mp ha with e | ha
      · exact e
      · rcases List.mem_cons.mp hb with e | hb
        · exact e.symm
        · exact anti a b (hl.1 b hb) (hm.1 a ha)
    subst e
    rw [perm_sorted_eq anti (List.Perm.cons_inv h) hl.2 hm.2]
/-- sorted lists of the same tuples are alike -/
theorem sorted_eq {l m : List (List Int)} (h : l.Perm m) (hl : l.Pairwise fun a b => HT.lexLt b a = false) (hm : m.Pairwise fun a b => HT.lexLt b a = false) : l = m :=
  perm_sorted_eq (fun a b h1 h2 => (Sx.lex_tot b a h1 h2).symm) h hl hm
end Mt

/-! ### list comprehensions of one clause -/
namespace L2
open PySem PySem.Spec PyProof.Rows

/-- the block of a comprehension: its own names, then the captured ones -/
def Xc (X : Cx) (pins : List (Addr × Obj)) (scope : Scope) (cl : List (Str × Addr)) (C : Addr) (N : List Str) (s : Shared) (H : Hp) (fp : List Addr) : Cx where
  prog := X.prog
  w := X.w
  K := X.K
  mg := X.mg
  base := X.base
  A := X.A
  N := N
  s₀ := s
  H₀ := H
  env := compEnvC scope cl C X.env
  outer := X.stack
  stack := X.stack
  ex := fp
  fn := fun x => (cl.lookup x).isNone
  calm := X.calm
  pn := X.pn ++ pins
  xe := fun _ _ => False

/-- the values at the block's entry: own names none, then those of the slots js -/
def σC (own : Nat) (js : List Nat) (σ : St) : St := List.replicate own none ++ js.map fun j => (σ[j]?).getD none

/-- what the reader must know of the text: the closure's cells, the captured names -/
structure Caps (X : Cx) (scope : Scope) (cl : List (Str × Addr)) (own caps : List Str) (js : List Nat) : Prop where
  clos : closureFor scope X.env = pure cl
  sub : ∀ x c, cl.lookup x = some c → X.env.cells.lookup x = some c
  kind : scope.kind = .function
  nocell : ∀ y ∈ scope.names, y.2 ≠ .cell
  names : ∀ y ∈ scope.names, y.2 = .local → scope.names.lookup y.1 = some .local
  has : ∀ x, ((relabel scope X.env).names.lookup x = some .cell ∨ (relabel scope X.env).names.lookup x = some .free) → ∃ c, cl.lookup x = some c
  capl : caps.length = js.length
  cap : ∀ (i : Nat) (x : Str), caps[i]? = some x → ∃ j : Nat, js[i]? = some j ∧ X.N[j]? = some x ∧ X.env.scope.names.lookup x = some .cell ∧ (cl.lookup x).isSome = true ∧ (relabel scope X.env).names.lookup x = some .cell

section
variable {X : Cx} {pins : List (Addr × Obj)} {σ : St} {H : Hp} {s : Shared} {scope : Scope} {cl : List (Str × Addr)} {own caps : List Str} {js : List Nat}

theorem Inv.offC {C : Addr} {h' : Heap} {t' : Nat} (I : Inv X pins σ H s) (f : FpOk X pins H C) (hs : Heap.SameBut C s.heap h') : Inv X pins σ H { s with heap := h', toks := t' } := by
  obtain ⟨f0, f1, f2, f3, f4, f5⟩ := f
  exact I.turned (fun b o hb e => (hs.2 b hb).trans e) f0 f1 f3 f4 f5

/-- the block's context is sound -/
theorem xc_ok {fp : List Addr} {C : Addr} {H1 : Hp} (I : Inv X pins σ H1 s) (K : Caps X scope cl own caps js) (hC : s.heap.objs.size ≤ C) (hf : ∀ b ∈ fp, FpOk X pins H1 b) (ho : ∀ b ∈ fp, ∃ o, s.heap.get? b = some o) :
    (Xc X pins scope cl C (own ++ caps) s H1 fp).Ok := by
  refine ⟨I.ok.mod, K.kind, I.ok.glob, I.ok.blt, hC, fun x y c h1 h2 => I.ok.inj x y c (K.sub x c h1) (K.sub y c h2), fun x hx => K.has x hx, fun x c h1 h2 => ?_, I.ok.hd, I.ok.frames, .inl rfl, fun b hb => ?_, I.bs, Nat.le_trans I.ok.bsz I.sz, fun b o e hb => ?_, fun b hb hm => ?_, I.stack, I.stkFree⟩
  · have h1 : (cl.lookup x).isNone = true := h1
    have h2 : cl.lookup x = some c := h2
    rw [h2] at h1; cases h1
  · obtain ⟨o, e⟩ := ho b hb
    refine ⟨fun z => ?_, fun x c h z => (hf b hb).2.2.2.2.1 x c (K.sub x c h) z⟩
    have : b < C := Nat.lt_of_lt_of_le (Heap.lt_size e) hC
    rw [z] at this
    exact absurd this (Nat.lt_irrefl _)
  · rcases (hf b hb).2.2.2.1 with z | z
    · exact I.ok.noex b o e z
    · exact absurd (Nat.lt_of_lt_of_le (Heap.lt_size e) (Nat.le_trans I.ok.bsz z)) (Nat.lt_irrefl _)
  · rcases List.mem_cons.mp (I.stkSub b hm) with z | z
    · exact (hf b hb).2.1 z
    · exact (hf b hb).2.2.1 z
/-- the block's state at its entry -/
theorem xc_inv {fp : List Addr} {D C : Addr} {H1 : Hp} {s4 : Shared} {mC : Str → Option Value} (I : Inv X pins σ H1 s) (K : Caps X scope cl own caps js) (hC : s.heap.objs.size ≤ C) (hD : s.heap.objs.size ≤ D) (hDC : D ≠ C)
    (hf : ∀ b ∈ fp, FpOk X pins H1 b) (ho : ∀ b ∈ fp, ∃ o, s.heap.get? b = some o) (h4 : ∃ h' tk, s4 = { s with heap := h', toks := tk }) (k4 : ∀ b o, s.heap.get? b = some o → s4.heap.get? b = some o) (hn : s4.heap.Ns C mC)
    (hl : s4.heap.get? D = some { cls := .type "list", data := .seq #[] 0 }) : Inv (Xc X pins scope cl C (own ++ caps) s H1 fp) [] (σC own.length js σ) (upd H1 D (.lst [])) s4 := by
  obtain ⟨h', tk, rfl⟩ := h4
  have hfr : H1 D = none := I.hok.fresh hD
  have hlen : (σC own.length js σ).length = (own ++ caps).length := by
    unfold σC
    rw [List.length_append, List.length_append, List.length_replicate, List.length_map, K.capl]
  have celK : ∀ c v, s.heap.IsCell c v → h'.IsCell c v := fun c v ⟨o, e, d⟩ => ⟨o, k4 c o e, d⟩
  have cold : ∀ x c, cl.lookup x = some c → c < s.heap.objs.size := fun x c e => by
    obtain ⟨v, z⟩ := I.cell x c (K.sub x c e)
    exact z.lt
  refine ⟨xc_ok I K hC hf ho, rfl, I.bare, Un.laid k4 hD hfr, ⟨mC, hn, fun i x v e1 e2 e3 => ?_⟩, fun x c e => ?_, ?_, fun x c e => ?_, fun p hp => ?_, I.hok.laid k4 hD ?_, hlen⟩
  · have hi : own.length ≤ i := by
      by_cases hi : i < own.length
      · exfalso
        unfold σC at e2
        rw [List.getElem?_append_left (by rw [List.length_replicate]; exact hi), List.getElem?_replicate, if_pos hi] at e2
        cases e2
      · omega
    obtain ⟨k, rfl⟩ : ∃ k, i = own.length + k := ⟨i - own.length, by omega⟩
    have e1 : (own ++ caps)[own.length + k]? = some x := e1
    rw [List.getElem?_append_right (by omega), Nat.add_sub_cancel_left] at e1
    obtain ⟨j, j1, j2, j3, j4, j5⟩ := K.cap k x e1
    unfold σC at e2
    rw [List.getElem?_append_right (by rw [List.length_replicate]; omega), List.length_replicate, Nat.add_sub_cancel_left, List.getElem?_map, j1] at e2
    have e2 : (σ[j]?).getD none = some v := Option.some.inj e2
    have e4 : σ[j]? = some (some v) := by
      cases q : σ[j]? with
      | none => rw [q] at e2; cases e2
      | some y => rw [q] at e2; exact congrArg some e2
    obtain ⟨m, _, hl'⟩ := I.loc
    obtain ⟨u, ru, lk⟩ := hl' j x v j2 e4 (.inr (.inl j3))
    refine ⟨u, ru, ?_⟩
    rcases lk with ⟨hk, _⟩ | ⟨_, c, hc, hcell⟩
    · have hk : X.env.scope.names.lookup x = some .local := hk
      rw [j3] at hk; cases hk
    · obtain ⟨c', hc'⟩ := Option.isSome_iff_exists.mp j4
      have := K.sub x c' hc'
      rw [hc] at this; cases this
      exact .inr ⟨.inl j5, c, hc', celK _ _ hcell⟩
  · obtain ⟨v, z⟩ := I.cell x c (K.sub x c e)
    exact ⟨v, celK _ _ z⟩
  · show upd H1 D (.lst []) C = none
    rw [upd_ne (Ne.symm hDC)]
    exact I.hok.fresh hC
  · rw [upd_ne (Nat.ne_of_lt (Nat.lt_of_lt_of_le (cold x c e) hD))]
    exact I.freeC x c (K.sub x c e)
  · have hp : p ∈ X.pn ++ pins := by
      have : p ∈ (X.pn ++ pins) ++ [] := hp
      simpa using this
    obtain ⟨e, n, ne, nf, d⟩ := I.pin p hp
    have hlt := Heap.lt_size e
    refine ⟨k4 _ _ e, by rw [upd_ne (Nat.ne_of_lt (Nat.lt_of_lt_of_le hlt hD))]; exact n, Nat.ne_of_lt (Nat.lt_of_lt_of_le hlt hC), fun hm => ?_, d⟩
    rcases List.mem_cons.mp (I.stkSub _ hm) with z | z
    · exact ne z
    · exact nf z
  · exact ⟨Nat.zero_le _, [], 0, .nil, hl⟩
/-- behind the block -/
theorem xc_back {fp : List Addr} {C : Addr} {N : List Str} {H1 H' : Hp} {σ' : St} {pl : List (Addr × Obj)} {s' : Shared} (I : Inv X pins σ H1 s) (hf : ∀ b ∈ fp, FpOk X pins H1 b) (J : Inv (Xc X pins scope cl C N s H1 fp) pl σ' H' s') : Inv X pins σ H' s' :=
  I.call' J.os J.base J.hok J.bare fun b hb => ⟨(hf b hb).2.2.2.1, (hf b hb).2.1, (hf b hb).2.2.2.2.1, (hf b hb).2.2.2.2.2⟩
end

/-- a turn: the target, the tests, the element; W is the invariant: turn, measure, items so far, names, heap -/
def tTurns (J : It) (g : TG) (tt : TT) (te : TE) (σ0 : St) (D : Addr) (Qd : Hp → Prop) (H1 : Hp) : Prop :=
  ∃ W : Nat → Nat → List V → St → Hp → Prop, (∃ m, W 0 m [] σ0 (upd H1 D (.lst []))) ∧ ∀ i m ys σ1 H2, W i m ys σ1 H2 → H2 D = some (.lst ys) ∧
    ((J.stop i H2 ∧ Qd H2) ∨ (J.go i H2 ∧ ys.length < sizeLine ∧ ∀ x H3, J.yld i H2 x H3 → g x σ1 H3 fun σ2 H4 => tt σ2 H4 fun c H5 =>
      if c = true then te σ2 H5 fun y H6 => H6 D = some (.lst ys) ∧ ∃ m', m' < m ∧ W (i + 1) m' (ys ++ [y]) σ2 (upd H6 D (.lst (ys ++ [y]))) else ∃ m', m' < m ∧ W (i + 1) m' ys σ2 H5))
/-- the tests of a clause -/
def PTs (X : Cx) (ifs : List Expr) (t : TT) : Prop :=
  ∀ (pins : List (Addr × Obj)) (s : Shared) (σ : St) (H : Hp) (Q : Bool → Hp → Prop), Inv X pins σ H s → t σ H Q →
    wpAny (model X.prog X.w) X.A (forIn ifs true fun c r => if r = true then do let ok ← isTrue c X.env (eval c X.env); pure (ForInStep.yield ok) else pure (ForInStep.yield r)) (TP X pins σ Q) X.xe s
def tYes : TT := fun _ H Q => Q true H
theorem pts_nil {X : Cx} : PTs X [] tYes := fun _ _ _ H _ I h => wpAny_tests_nil ⟨H, I, h⟩
theorem pts_one {X : Cx} {c : Expr} {t : TT} (h : PT X c t) : PTs X [c] t := fun pins s σ H Q I hw => wpAny_tests_one (h pins s σ H Q I hw)

section
variable {X : Cx} {pins : List (Addr × Obj)} {σ : St} {H : Hp} {s : Shared} {scope : Scope} {cl : List (Str × Addr)} {own caps : List Str} {js : List Nat}
variable {tg iter elt : Expr} {ifs : List Expr} {pos : Pos} {g : TG} {tt : TT} {te : TE}
/-- the turns of a comprehension -/
theorem comp_loop {J : It} {fp : List Addr} {it D C : Addr} {tn : Nat → Heap → Prop} {H1 : Hp} {σ0 : St} {Qd : Hp → Prop} {RR : Result → Shared → Prop} {s4 : Shared}
    (hc : X.calm = true) (T : Turn X.prog X.w X.K tg J fp it tn)
    (hg : PG (Xc X pins scope cl C (own ++ caps) s H1 fp) tg g) (ht : PTs (Xc X pins scope cl C (own ++ caps) s H1 fp) ifs tt) (he : PE (Xc X pins scope cl C (own ++ caps) s H1 fp) elt te)
    (hf : ∀ b ∈ fp, FpOk X pins H1 b)
    (J0 : Inv (Xc X pins scope cl C (own ++ caps) s H1 fp) [] σ0 (upd H1 D (.lst [])) s4) (st0 : tn 0 s4.heap) (hfD : ∀ b ∈ fp, b ≠ D)
    (turns : tTurns J g tt te σ0 D Qd H1)
    (fin : ∀ σ' H' s', Inv (Xc X pins scope cl C (own ++ caps) s H1 fp) [] σ' H' s' → Qd H' → RR (.ok .next) s') :
    codeAny (model X.prog X.w) X.A (.compLoop (.ListComp elt [⟨tg, iter, ifs, 0⟩] scope pos) 0 (.ref it) (.ref D) (compEnvC scope cl C X.env)) RR s4 := by
  obtain ⟨W, ⟨m0, w0⟩, turn⟩ := turns
  have stat : ∀ {H' : Hp}, (∀ b ∈ fp, H' b = none) → ∀ b ∈ fp, FpOk (Xc X pins scope cl C (own ++ caps) s H1 fp) [] H' b := fun {H'} hn b hb => by
    refine ⟨hn b hb, (J0.ok.exf b hb).1, J0.ok.exfs b hb, .inl hb, fun x c e => (J0.ok.exf b hb).2 x c e, fun p hp => ?_⟩
    have hp : p ∈ X.pn ++ pins := by
      have : p ∈ (X.pn ++ pins) ++ [] := hp
      simpa using this
    exact (hf b hb).2.2.2.2.2 p hp
  refine codeAny_loop rfl (fun n s' => ∃ i ys σ' H', Inv (Xc X pins scope cl C (own ++ caps) s H1 fp) [] σ' H' s' ∧ tn i s'.heap ∧ (∀ b ∈ fp, H' b = none) ∧ W i n ys σ' H') (fun n s' hI => ?_) m0
    ⟨0, [], _, _, J0, st0, fun b hb => by rw [upd_ne (hfD b hb)]; exact (hf b hb).1, w0⟩
  obtain ⟨i, ys, σ2, H2, I2, st, fr, w2⟩ := hI
  show wpAny _ X.A ((compTurn (.ListComp elt [⟨tg, iter, ifs, 0⟩] scope pos) 0 (.ref it) (.ref D) (compEnvC scope cl C X.env)).onRaise (fun x => do noteFrame x (compEnvC scope cl C X.env); theTreesLotGoes x)) _ _ s'
  refine wpAny_noted (wpAny_noRaise ?_)
  rw [compTurn_list]
  obtain ⟨hD, alt⟩ := turn i n ys σ2 H2 w2
  rcases alt with ⟨stop, qd⟩ | ⟨go, hz, step⟩
  · refine wpAny_bind (wpAny_standAt (wpAny_bind (thn (T.done (Xc X pins scope cl C (own ++ caps) s H1 fp) rfl rfl rfl hc i [] s' σ2 H2 (fun _ _ => False) I2 (stat fr) st stop) fun r s5 ⟨hr, I5⟩ => ?_)))
    subst hr
    exact wpAny_pure (fin _ _ _ I5 qd)
  · refine wpAny_bind (wpAny_standAt (wpAny_bind (thn (T.item (Xc X pins scope cl C (own ++ caps) s H1 fp) rfl rfl rfl hc i [] s' σ2 H2 (fun _ _ => False) I2 (stat fr) st go) fun r s5 ⟨u, hr, h5⟩ => ?_)))
    subst hr
    refine wpAny_bind (thn h5 fun _ s6 ⟨x, H6, I6, r6, y6, st6, fr6⟩ => ?_)
    have I6' := I6.pinned (stat fr6) (T.obj _ _ st6)
    refine wpAny_bind (thn (hg _ s6 σ2 H6 x u _ I6' r6 (step x H6 y6)) fun _ s7 ⟨σ7, H7, I7, q7⟩ => ?_)
    refine wpAny_bind (thn (ht _ s7 σ7 H7 _ I7 q7) fun ok s8 ⟨H8, I8, q8⟩ => ?_)
    have again : ∀ {H9 : Hp} {ys' : List V} {m : Nat} {s9 : Shared}, Inv (Xc X pins scope cl C (own ++ caps) s H1 fp) ([] ++ pinsAt fp s6.heap) σ7 H9 s9 → m < n → W (i + 1) m ys' σ7 H9 →
        ∃ m, m < n ∧ ∃ i ys σ' H', Inv (Xc X pins scope cl C (own ++ caps) s H1 fp) [] σ' H' s9 ∧ tn i s9.heap ∧ (∀ b ∈ fp, H' b = none) ∧ W i m ys σ' H' := fun {H9 ys' m s9} I9 hm w9 => by
      refine ⟨m, hm, i + 1, ys', σ7, H9, I9.unpinned, T.keep _ _ _ st6 fun b hb o e => (I9.pin (b, o) (List.mem_append_right _ (List.mem_append_right _ (mem_pinsAt hb e)))).1, fun b hb => ?_, w9⟩
      obtain ⟨o, e, _⟩ := T.obj _ _ st6 b hb
      exact (I9.pin (b, o) (List.mem_append_right _ (List.mem_append_right _ (mem_pinsAt hb e)))).2.1
    cases ok with
    | false =>
      rw [if_neg Bool.false_ne_true] at q8
      obtain ⟨m, hm, w8⟩ := q8
      exact wpAny_pure ⟨rfl, again I8 hm w8⟩
    | true =>
      rw [if_pos rfl] at q8
      refine wpAny_bind (wpAny_bind (thn (he _ s8 σ7 H8 _ I8 q8) fun y s9 ⟨yv, H9, I9, r9, hD9, m, hm, w9⟩ => ?_))
      refine wpAny_bind (thn (mt_append _ s9 σ7 H9 (.ref D) [yv] (.ref D) [y] (fun _ H10 => H10 = upd H9 D (.lst (ys ++ [yv]))) I9 rfl (.cons r9 .nil) ⟨D, ys, yv, rfl, rfl, hD9, hz, rfl⟩) fun _ s10 ⟨_, H10, I10, _, e10⟩ => ?_)
      subst e10
      exact wpAny_pure (wpAny_pure ⟨rfl, again I10 hm w9⟩)
/-- the block: the new list, the block's names, the turns -/
theorem comp_block {J : It} {fp : List Addr} {it : Addr} {tn : Nat → Heap → Prop} {H1 : Hp} {Qd : Addr → Hp → Prop} {RR : Value → Addr → Result → Shared → Prop} {E : Value → Shared → Prop}
    (hc : X.calm = true) (I : Inv X pins σ H1 s) (K : Caps X scope cl own caps js) (T : Turn X.prog X.w X.K tg J fp it tn) (st0 : tn 0 s.heap) (hf : ∀ b ∈ fp, FpOk X pins H1 b)
    (hg : ∀ C, PG (Xc X pins scope cl C (own ++ caps) s H1 fp) tg g) (ht : ∀ C, PTs (Xc X pins scope cl C (own ++ caps) s H1 fp) ifs tt) (he : ∀ C, PE (Xc X pins scope cl C (own ++ caps) s H1 fp) elt te)
    (turns : ∀ D, H1 D = none → tTurns J g tt te (σC own.length js σ) D (Qd D) H1)
    (fin : ∀ D C H' s', Inv X pins σ H' s' → FpOk X pins H' C → (∃ m, s'.heap.Ns C m) → Qd D H' → RR (.ref D) C (.ok .next) s') :
    wpAny (model X.prog X.w) X.A (newList []) (fun acc s₃ => wpAny (model X.prog X.w) X.A (newFunctionEnv scope X.env.globals cl [] X.env.qual none .none (some X.env)) (fun cenv s₄ =>
      codeAny (model X.prog X.w) X.A (.compStart (.ListComp elt [⟨tg, iter, ifs, 0⟩] scope pos) 0 (.ref it) acc { cenv with scope := relabel scope X.env }) (RR acc cenv.locals) s₄) E s₃) E s := by
  have hold : ∀ b ∈ fp, ∃ o, s.heap.get? b = some o := fun b hb => let ⟨o, e, _⟩ := T.obj 0 _ st0 b hb; ⟨o, e⟩
  refine wpAny_newObj_type (wpAny_newFunctionEnv K.nocell (by intro y hy; simp at hy) (fun h₁ hns₁ hsb₁ => ?_) K.kind)
  dsimp only at hns₁ hsb₁ ⊢
  generalize hH2 : s.heap.push { cls := .type "list", dict := none, data := .seq ([] : List Value).toArray } = H2 at hns₁ hsb₁ ⊢
  have hsz : H2.objs.size = s.heap.objs.size + 1 := by rw [← hH2, Heap.size_push]
  have k4 : ∀ b o, s.heap.get? b = some o → h₁.get? b = some o := fun b o e => by
    have hlt := Heap.lt_size e
    refine (hsb₁.2 b (Nat.ne_of_lt (hsz ▸ Nat.lt_succ_of_lt hlt))).trans (Heap.get?_push_of_some _ ?_)
    rw [← hH2]
    exact Heap.get?_push_of_some _ e
  have hlist : h₁.get? s.heap.objs.size = some { cls := .type "list", data := .seq #[] 0 } := by
    refine (hsb₁.2 _ (Nat.ne_of_lt (hsz ▸ Nat.lt_succ_self _))).trans (Heap.get?_push_of_some _ ?_)
    rw [← hH2]
    exact Heap.get?_push_size _ rfl
  have hfr : H1 s.heap.objs.size = none := I.hok.fresh (Nat.le_refl _)
  have J0 := xc_inv (C := H2.objs.size) (D := s.heap.objs.size) (s4 := { s with heap := h₁, toks := s.toks + ([] : List (Str × Value)).length }) I K (hsz ▸ Nat.le_succ _) (Nat.le_refl _) (Nat.ne_of_lt (hsz ▸ Nat.lt_succ_self _)) hf hold ⟨_, _, rfl⟩ k4 hns₁ hlist
  have hfD : ∀ b ∈ fp, b ≠ s.heap.objs.size := fun b hb z => by
    obtain ⟨o, e⟩ := hold b hb
    have hlt := Heap.lt_size e
    rw [z] at hlt
    exact absurd hlt (Nat.lt_irrefl _)
  have st1 : tn 0 h₁ := T.keep 0 _ _ st0 fun b hb o e => k4 b o e
  have loop : ∀ s₃ : Shared, s₃ = { s with heap := h₁, toks := s.toks + ([] : List (Str × Value)).length } →
      codeAny (model X.prog X.w) X.A (.compLoop (.ListComp elt [⟨tg, iter, ifs, 0⟩] scope pos) 0 (.ref it) (.ref s.heap.objs.size) (compEnvC scope cl H2.objs.size X.env)) (RR (.ref s.heap.objs.size) H2.objs.size) s₃ := by
    rintro s₃ rfl
    refine comp_loop hc T (hg _) (ht _) (he _) hf J0 st1 hfD (turns _ hfr) fun σ' H' s' J' qd => ?_
    have hC : H' H2.objs.size = none := J'.free
    obtain ⟨m, hn, _⟩ := J'.loc
    exact fin _ _ _ _ (xc_back I hf J') (I.fpOk (by omega) hC) ⟨m, hn⟩ qd
  exact codeAny_compStart_list (loop _ rfl) (T.self _ 0 _ _ _ st1 (loop _ rfl))

/-- [elt for tg in iter if ..] -/
def tComp (wi : TI) (g : TG) (tt : TT) (te : TE) (own : Nat) (js : List Nat) : TE := fun σ H Q => wi σ H fun J H1 => ∀ D, H1 D = none → tTurns J g tt te (σC own js σ) D (fun H' => Q (.ref D) H') H1
theorem pe_comp {wi : TI} (hc : X.calm = true) (K : Caps X scope cl own caps js) (hi : PI X tg iter wi)
    (hg : ∀ pins C s H1 fp, PG (Xc X pins scope cl C (own ++ caps) s H1 fp) tg g) (ht : ∀ pins C s H1 fp, PTs (Xc X pins scope cl C (own ++ caps) s H1 fp) ifs tt) (he : ∀ pins C s H1 fp, PE (Xc X pins scope cl C (own ++ caps) s H1 fp) elt te)
    (hs : ∀ x, foldedSetIterable iter X.env x = pure x := by intro _; rfl) : PE X (.ListComp elt [⟨tg, iter, ifs, 0⟩] scope pos) (tComp wi g tt te own.length js) := by
  intro pins s σ H Q I h
  rw [eval_ListComp]
  refine wpAny_comprehension_free (use := none) rfl hs K.clos K.kind K.names (thn (hi pins s σ H _ I h) fun v s1 h1 => thn h1 fun itv s2 h2 => ?_)
  obtain ⟨it, fp, tn, J, H1, e, I2, T, st, f, q⟩ := h2
  subst e
  refine comp_block (Qd := fun D H' => Q (.ref D) H') (RR := fun acc C => compPost (model X.prog X.w) X.A X.xe none (EP X pins σ Q) acc C) hc I2 K T st f (fun C => hg _ C _ _ _) (fun C => ht _ C _ _ _) (fun C => he _ C _ _ _) q ?_
  intro D C H' s' I' fC ⟨m, hn⟩ qd
  exact ⟨m, hn, fun h' hs' => ⟨.ref D, H', I'.offC (t' := s'.toks) fC hs', rfl, qd⟩⟩
/-- name = [elt for tg in iter if ..] on one line: stored ahead of the block's end -/
def tCompSet (i : Nat) (wi : TI) (g : TG) (tt : TT) (te : TE) (own : Nat) (js : List Nat) : TS := fun D σ H => wi σ H fun J H1 => ∀ d, H1 d = none → tTurns J g tt te (σC own js σ) d (fun H' => D.nx (σ.set i (some (.ref d))) H') H1
end
end L2

/-! ### == and in, where the items are tuples of ints -/
namespace Sx
open PySem PySem.W PyProof.Rows
theorem ints_fun : ∀ {vs : List Value} {a b : List Int}, IntsAre vs a → IntsAre vs b → a = b
  | _, _, _, .nil, .nil => rfl
  | _, _, _, .cons n t h, .cons _ _ h' => by rw [ints_fun h h']
theorem ints_at : ∀ {vs : List Value} {ns : List Int} {i : Nat} {v : Value}, IntsAre vs ns → vs[i]? = some v → ∃ t, v = .int (ns.getD i 0) t
  | _, _, _, _, .nil, e => by simp at e
  | _, _, 0, _, .cons n t _, e => by simp at e; subst e; exact ⟨t, rfl⟩
  | _, _, i + 1, v, .cons n t h, e => by
    obtain ⟨t', e'⟩ := ints_at (i := i) (v := v) h (by simpa using e)
    exact ⟨t', by simpa using e'⟩
theorem all_eq : ∀ (t u : List Int), ((List.range (min t.length u.length)).all (fun j => t.getD j 0 == u.getD j 0) && t.length == u.length) = decide (t = u) := by
  intro t u
  rw [Bool.eq_iff_iff, Bool.and_eq_true, List.all_eq_true, beq_iff_eq, decide_eq_true_iff]
  constructor
  · rintro ⟨h1, h2⟩
    apply List.ext_getElem h2
    intro i hi hj
    have := h1 i (List.mem_range.mpr (by omega))
    simpa [hi, hj] using this
  · rintro rfl
    exact ⟨fun i _ => by simp, rfl⟩
theorem eqAt_tups {A : Around} {s : Shared} {a b : Addr} {t u : List Int} (ha : TupI s.heap a t) (hb : TupI s.heap b u) (hu : A.units < cLine) : SeqAt.EqAt A s (.ref a) (.ref b) (decide (t = u)) := by
  obtain ⟨oa, ia, na, ea, ca, da, pa⟩ := ha
  obtain ⟨ob, ib, nb, eb, cb, db, pb⟩ := hb
  by_cases e : a = b
  · subst e
    rw [ea] at eb
    cases eb
    rw [da] at db
    injection db with d1 _
    subst d1
    have := ints_fun pa pb
    subst this
    rw [decide_eq_true rfl]
    exact SeqAt.EqAt.same _
  · have la : ia.size = t.length := by rw [← pa.length, Array.length_toList]
    have lb : ib.size = u.length := by rw [← pb.length, Array.length_toList]
    have := SeqAt.RcAt.tuples (A := A) (s := s) (l := a) (b := b) (items := ia) (items2 := ib) (e := fun j => t.getD j 0 == u.getD j 0) ⟨oa, ea, ca, na, da⟩ ⟨ob, eb, cb, nb, db⟩ hu fun j h1 h2 => by
      obtain ⟨t1, e1⟩ := ints_at (i := j) (v := ia[j]) pa (by simp [h1])
      obtain ⟨t2, e2⟩ := ints_at (i := j) (v := ib[j]) pb (by simp [h2])
      rw [e1, e2]
      exact SeqAt.EqAt.int_int _ _ _ _
    rw [la, lb, all_eq] at this
    exact SeqAt.EqAt.of_refs e this
end Sx
namespace L2
open PySem PySem.Spec PyProof.Rows
section
variable {X : Cx}
open Classical in
/-- does the tuple t stand there -/
noncomputable def isT (H : Hp) (t : List Int) : Value → Bool
  | .ref r => decide (H r = some (.tup (t.map V.int)))
  | _ => false
theorem all_eqL : ∀ (ts us : List (List Int)), ts.length = us.length → (List.range ts.length).all (fun j => decide (ts.getD j [] = us.getD j [])) = decide (ts = us) := by
  intro ts us hl
  rw [Bool.eq_iff_iff, List.all_eq_true, decide_eq_true_iff]
  constructor
  · intro h1
    apply List.ext_getElem hl
    intro i hi hj
    have := h1 i (List.mem_range.mpr hi)
    simpa [hi, hj] using this
  · rintro rfl
    exact fun i _ => by simp
end
end L2

/-! ### turns of a comprehension, lists side by side -/
namespace L2
open PySem PySem.Spec PyProof.Rows
theorem yes_of {σ : St} {H : Hp} {A B : Hp → Prop} (h : A H) : tYes σ H fun c H5 => if c = true then A H5 else B H5 := by
  show if true = true then A H else B H
  rw [if_pos rfl]
  exact h
/-- the next turn of a comprehension of n turns -/
def Nxt (n i : Nat) (Pv : Nat → List V → St → Hp → Prop) (ys : List V) (σ : St) (H : Hp) : Prop := ∃ m', m' < n - i ∧ m' = n - (i + 1) ∧ i + 1 ≤ n ∧ Pv (i + 1) ys σ H
theorem Nxt.mk {n i : Nat} {Pv : Nat → List V → St → Hp → Prop} {ys : List V} {σ : St} {H : Hp} (hi : i < n) (h : Pv (i + 1) ys σ H) : Nxt n i Pv ys σ H := ⟨n - (i + 1), by omega, rfl, hi, h⟩
theorem turns_list {K : PySem.W.Frag} {a D : Addr} {xs : List V} {g : TG} {tt : TT} {te : TE} {σ0 : St} {Qd : Hp → Prop} {H1 : Hp} (Pv : Nat → List V → St → Hp → Prop) (h0 : Pv 0 [] σ0 (upd H1 D (.lst [])))
    (hD : ∀ i ys σ H, Pv i ys σ H → H D = some (.lst ys) ∧ ys.length < sizeLine ∧ SqL K H a xs)
    (hs : ∀ i x ys σ H, xs[i]? = some x → Pv i ys σ H → g x σ H fun σ2 H4 => tt σ2 H4 fun c H5 => if c = true then te σ2 H5 fun y H6 => H6 D = some (.lst ys) ∧ Nxt xs.length i Pv (ys ++ [y]) σ2 (upd H6 D (.lst (ys ++ [y]))) else Nxt xs.length i Pv ys σ2 H5)
    (hd : ∀ ys σ H, Pv xs.length ys σ H → Qd H) : tTurns (Itl K a) g tt te σ0 D Qd H1 := by
  refine ⟨fun i m ys σ H => m = xs.length - i ∧ i ≤ xs.length ∧ Pv i ys σ H, ⟨xs.length, by simp, Nat.zero_le _, h0⟩, ?_⟩
  rintro i m ys σ H ⟨rfl, hi, p⟩
  obtain ⟨d1, d2, d3⟩ := hD i ys σ H p
  refine ⟨d1, ?_⟩
  by_cases hlt : i < xs.length
  · refine .inr ⟨⟨xs, xs[i], d3, by simp [hlt]⟩, d2, fun x H3 y => ?_⟩
    obtain ⟨e, y⟩ := y
    subst e
    exact hs i x ys σ _ (y xs d3) p
  · have e : i = xs.length := by omega
    subst e
    exact .inl ⟨⟨xs, d3, Nat.le_refl _⟩, hd ys σ H p⟩
theorem paired_zip {α β : Type} {F : α → β → Prop} : ∀ {l : List α} {m : List β}, Paired F l m → ∀ p ∈ l.zip m, F p.1 p.2
  | _, _, .nil, p, hp => by simp at hp
  | _, _, .cons h t, p, hp => by
    rcases List.mem_cons.mp hp with rfl | hp
    · exact h
    · exact paired_zip t p hp
theorem zip_paired {α β : Type} {F : α → β → Prop} : ∀ {l : List α} {m : List β}, l.length = m.length → (∀ p ∈ l.zip m, F p.1 p.2) → Paired F l m
  | [], [], _, _ => .nil
  | [], _ :: _, e, _ => by simp at e
  | _ :: _, [], e, _ => by simp at e
  | a :: l, b :: m, e, h => .cons (h (a, b) (.head _)) (zip_paired (by simpa using e) fun p hp => h p (.tail _ hp))
theorem TupsH.sorted {H : Hp} {rs rs' : List Addr} {ts ts' : List (List Int)} (h : TupsH H rs ts) (S : Sx.Sorted rs ts rs' ts') : TupsH H rs' ts' ∧ ts'.Perm ts ∧ rs'.length = rs.length := by
  have l1 := Paired.length h
  have e := S.perm.length_eq
  rw [List.length_zip, List.length_zip] at e
  have e2 := S.len
  refine ⟨zip_paired S.len fun p hp => paired_zip h p (S.perm.mem_iff.mp hp), ?_, by omega⟩
  have q := S.perm.map (·.2)
  rw [List.map_snd_zip (by omega), List.map_snd_zip (by omega)] at q
  exact q
end L2
namespace L2
open PySem PySem.Spec PyProof.Rows
theorem paired_snoc {α β : Type} {F : α → β → Prop} : ∀ {l : List α} {m : List β} {a : α} {b : β}, Paired F l m → F a b → Paired F (l ++ [a]) (m ++ [b])
  | _, _, _, _, .nil, h => .cons h .nil
  | _, _, _, _, .cons q t, h => .cons q (paired_snoc t h)
end L2

/-! ### lists of bools -/
namespace L2
open PySem PySem.Spec PyProof.Rows
end L2

/-! ### more rules: isinstance of plain values, all, sorted of ints, == of lists of ints and of lists of such, insert -/
namespace Sx
open PySem PySem.W PyProof.Rows
theorem all_eqI (t u : List Int) (hl : t.length = u.length) : (List.range t.length).all (fun j => t.getD j 0 == u.getD j 0) = decide (t = u) := by
  rw [Bool.eq_iff_iff, List.all_eq_true, decide_eq_true_iff]
  constructor
  · intro h1
    apply List.ext_getElem hl
    intro i hi hj
    have := h1 i (List.mem_range.mpr hi)
    simpa [hi, hj] using this
  · rintro rfl
    exact fun i _ => by simp
/-- a list of ints lies there -/
def LstI (h : Heap) (a : Addr) (t : List Int) : Prop := ∃ its : Array Value, h.IsList a its ∧ IntsAre its.toList t
section
variable {A : Around} {s : Shared} {a b : Addr} {t u : List Int}
theorem rcAt_ints (ha : LstI s.heap a t) (hb : LstI s.heap b u) (hu : A.units < cLine) : SeqAt.RcAt A s (.ref a) (.ref b) (decide (t = u)) := by
  obtain ⟨ia, la, pa⟩ := ha
  obtain ⟨ib, lb, pb⟩ := hb
  have sa : ia.size = t.length := by rw [← pa.length, Array.length_toList]
  have sb : ib.size = u.length := by rw [← pb.length, Array.length_toList]
  by_cases hl : t.length = u.length
  · have := SeqAt.RcAt.lists (A := A) (e := fun j => t.getD j 0 == u.getD j 0) la lb (by omega) hu fun j h1 h2 => by
      obtain ⟨t1, e1⟩ := ints_at (i := j) (v := ia[j]) pa (by simp [h1])
      obtain ⟨t2, e2⟩ := ints_at (i := j) (v := ib[j]) pb (by simp [h2])
      rw [e1, e2]
      exact SeqAt.EqAt.int_int _ _ _ _
    rw [sa, all_eqI t u hl] at this
    exact this
  · have := SeqAt.RcAt.lists_lengths (A := A) la lb (by rw [sa, sb]; simpa using hl) hu
    rw [show decide (t = u) = false from decide_eq_false fun e => hl (by rw [e])]
    exact this
end
end Sx
namespace L2
open PySem PySem.Spec PyProof.Rows
/-- lists of ints -/
abbrev LsH (H : Hp) (rs : List Addr) (ts : List (List Int)) : Prop := Paired (fun r t => H r = some (.lst (t.map V.int))) rs ts
section
variable {X : Cx} {pins : List (Addr × Obj)} {σ : St} {H : Hp} {s : Shared}
theorem Inv.lstI {a : Addr} {t : List Int} (I : Inv X pins σ H s) (hq : SqL X.K H a (t.map V.int)) : Sx.LstI s.heap a t := by
  obtain ⟨its, rv, pl, hz⟩ := I.list hq
  exact ⟨its.toArray, pl.isList, by simpa using intsAre_of rv⟩
theorem op_eqI (hu : X.A.units < cLine) : OpR X (compareOp .Eq) (fun x y H Q => ∃ (a b : Addr) (t u : List Int), x = .ref a ∧ y = .ref b ∧ SqL X.K H a (t.map V.int) ∧ SqL X.K H b (u.map V.int) ∧ Q (.bl (decide (t = u))) H) := by
  intro pins s σ H x y v u Q I rx ry h
  obtain ⟨a, b, t, w, rfl, rfl, ha, hb, q⟩ := h
  cases rx
  cases ry
  exact Sx.rcAt_ints (I.lstI ha) (I.lstI hb) hu X.prog X.w _ _ ⟨.bl _, H, I, rfl, q⟩
/-- isinstance(x, T), T a built-in kind -/
theorem call_isV : CallR X (.builtin "isinstance") (fun vs H Q => ∃ (x : V) (T : String) (t : Value) (b : Bool), vs = [x, .ty T] ∧ TyOf X.K H x t ∧ PySem.W.kitOne X.K t (.type T) = some b ∧ Q (.bl b) H) := by
  intro pins s σ H vs us Q I r h
  obtain ⟨x, T, t, b, rfl, ty, e, q⟩ := h
  obtain ⟨u, v, rfl, r1, r2⟩ := vals2 r
  cases (show v = Value.type T from r2)
  exact isinst_ok I r1 ty e fun tk => ⟨.bl b, H, I.tok tk, rfl, q⟩
/-- sorted(xs), ints -/
theorem call_sortedI : CallR X (.builtin "sorted") (fun xs H Q => ∃ (a : Addr) (t : List Int), xs = [.ref a] ∧ SqL X.K H a (t.map V.int) ∧ t.length < 64 ∧ ∀ (t' : List Int) (p : Addr), t'.Perm t → t'.Pairwise (· ≤ ·) → H p = none → Q (.ref p) (upd H p (.lst (t'.map V.int)))) := by
  intro pins s σ H xs us Q I r h
  obtain ⟨a, t, rfl, hq, h64, q⟩ := h
  obtain ⟨u, rfl, ru⟩ := vals1 r
  cases ru
  obtain ⟨its, rv, pl, hz⟩ := I.list hq
  have hi := intsAre_of rv
  have hl : its.length = t.length := hi.length
  refine sorted_ints pl.isList hi (by omega) fun out ns' a1 a2 a3 => ?_
  obtain ⟨e, he⟩ := sortedAll_at s.heap its out
  have hfr : H (s.heap.objs.size + 1) = none := I.hok.fresh (Nat.le_succ _)
  have hln := a2.length_eq
  refine ⟨.ref (s.heap.objs.size + 1), _, I.laid (a := s.heap.objs.size + 1) (o := .lst (ns'.map V.int)) (t' := s.toks) (fun b o z => sortedAll_old z) (Nat.le_succ _) ⟨by rw [List.length_map, sizeLine_eq]; omega, out.toList, e, vals_ints a1, he⟩, rfl, q ns' _ a2 a3 hfr⟩
theorem Vals.take' : ∀ {xs : List V} {us : List Value} (k : Nat), Vals xs us → Vals (xs.take k) (us.take k)
  | _, _, 0, _ => by rw [List.take_zero, List.take_zero]; exact .nil
  | _, _, _ + 1, .nil => .nil
  | _, _, k + 1, .cons r t => .cons r (Vals.take' k t)
theorem Vals.drop' : ∀ {xs : List V} {us : List Value} (k : Nat), Vals xs us → Vals (xs.drop k) (us.drop k)
  | _, _, 0, h => h
  | _, _, _ + 1, .nil => .nil
  | _, _, k + 1, .cons _ t => Vals.drop' k t
/-- xs.insert(i, y), i in bounds -/
theorem mt_insert : MtM X "list.insert" (fun x vs H Q => ∃ (l : Addr) (xs : List V) (i : Int) (y : V), x = .ref l ∧ vs = [.int i, y] ∧ H l = some (.lst xs) ∧ 0 ≤ i ∧ i ≤ xs.length ∧ xs.length < 1000 ∧ Q .non (upd H l (.lst (xs.take i.toNat ++ y :: xs.drop i.toNat)))) := by
  intro pins s σ H x vs v us Q I rx rv h
  obtain ⟨l, xs, i, y, rfl, rfl, hH, h0, h1, hz, q⟩ := h
  cases rx
  obtain ⟨u, w, rfl, ru, rw'⟩ := rv.two
  obtain ⟨t, rfl⟩ := ru
  obtain ⟨z, its, n, r, hl, e⟩ := I.lstM hH
  have hf : Builtin.List.listFitsIndex i = true := by
    unfold Builtin.List.listFitsIndex
    first | (simp; omega) | (rw [Bool.and_eq_true, decide_eq_true_iff, decide_eq_true_iff]; omega)
  refine call_meets PySem.F.slot_list_insert ⟨_, e, rfl⟩ PySem.F.entry_list_insert (PySem.F.args_list_insert_3 _ _ _) (PySem.AutoSeq1.list_insert_list_int_val_1 l its.toArray n i t w (by simp [hf]) (by rw [List.size_toArray]; omega)) ⟨e, ?_⟩
  refine ⟨.non, _, I.lset (its' := its.take i.toNat ++ w :: its.drop i.toNat) hH e ?_ ((Vals.take' _ r).append (.cons rw' (Vals.drop' _ r))) ?_, rfl, q⟩
  · have e1 : ¬ i < 0 := by omega
    have e2 : min i.toNat its.length = i.toNat := by omega
    simp only [e1, if_false, List.size_toArray, e2]
    apply Array.ext'
    simp
    exact List.take_of_length_le (by rw [List.length_drop]; exact Nat.le_refl _)
  · rw [List.length_append, List.length_cons, List.length_take, List.length_drop, sizeLine_eq]
    omega
end
end L2

/-! ### k13: the mathematics: parts of a web -/
namespace G13
abbrev Tri := Int × Int × Int
/-- some tie has these two ends -/
def tied (T : List Tri) (x y : Int) : Prop := ∃ t ∈ T, (t.1 = x ∧ t.2.1 = y) ∨ (t.1 = y ∧ t.2.1 = x)
/-- a way from x along ties, none of its further points out -/
inductive Reach (T : List Tri) (O : List Int) (x : Int) : Int → Prop
  | refl : Reach T O x x
  | step {y z : Int} : Reach T O x y → tied T y z → z ∉ O → Reach T O x z
section
variable {T : List Tri} {O : List Int} {x y z m : Int}
/-- the points -/
def pts (m : Int) : List Int := (List.range m.toNat).map fun (i : Nat) => (i : Int)
open Classical in
/-- the part of a point -/
noncomputable def comp (m : Int) (T : List Tri) (O : List Int) (x : Int) : List Int := (pts m).filter fun y => decide (Reach T O x y)
/-- the first point of its part -/
def first (T : List Tri) (O : List Int) (x : Int) : Prop := x ∉ O ∧ ∀ y, 0 ≤ y → y < x → y ∉ O → ¬ Reach T O y x
/-- what has been met ahead of point i -/
def met (m : Int) (T : List Tri) (O : List Int) (i : Int) (y : Int) : Prop := y ∈ O ∨ ∃ x, 0 ≤ x ∧ x < i ∧ first T O x ∧ y ∈ comp m T O x
def good (m : Int) (T : List Tri) : Prop := ∀ t ∈ T, 0 ≤ t.1 ∧ t.1 < m ∧ 0 ≤ t.2.1 ∧ t.2.1 < m
open Classical in
noncomputable def firsts (m : Int) (T : List Tri) (O : List Int) (i : Int) : List Int := (pts i).filter fun x => decide (first T O x)
/-- the parts of the points below i -/
noncomputable def partsTo (m : Int) (T : List Tri) (O : List Int) (i : Int) : List (List Int) := (firsts m T O i).map (comp m T O)
/-- a part hangs together: what is reached from one of it within it -/
structure Hangs (T : List Tri) (P : List Int) (h : Int) : Prop where
  ex : ∃ O : List Int, (∀ y ∈ P, Reach T O h y) ∧ ∀ y ∈ P, ∀ z, tied T y z → z ∉ O → z ∈ P
/-- where each point stands -/
def plc : Nat → List (List Int) → List (Int × Nat)
  | _, [] => []
  | k, c :: r => c.map (fun y => (y, k)) ++ plc (k + 1) r
end
end G13

/-! ### the sort of 64 items and more: gallop -/
namespace Ts
open PySem PyProof.Rows
def gallop' : Bool → Keyed → Array Keyed → Nat → Nat → Nat → StateT SortSt Sem (Option Nat) := sortPriv% PySem.Builtin.gallop
def mergeLo' : Array Keyed → Array Keyed → StateT SortSt Sem (Array Keyed) := sortPriv% PySem.Builtin.mergeLo
def mergeHi' : Array Keyed → Array Keyed → StateT SortSt Sem (Array Keyed) := sortPriv% PySem.Builtin.mergeHi
section
variable {prog : Program} {w : World} {A : Around} {E : Value → Shared → Prop} {s : Shared} {κ : SortKind} {O : KeyOrd} {key : Keyed → O.α} {Good : Keyed → Prop}
/-- two good items compared: by their keys, and nothing else is touched -/
def LtOk (prog : Program) (w : World) (A : Around) (E : Value → Shared → Prop) (s : Shared) (κ : SortKind) (O : KeyOrd) (key : Keyed → O.α) (Good : Keyed → Prop) : Prop :=
  ∀ x y, Good x → Good y → ∀ (Q : Option Bool → SortSt → Prop) (st : SortSt), kindOf st = κ → Q (some (O.blt (key x) (key y))) st → wpS (model prog w) A E s (lt' x y) Q st
def bnd (O : KeyOrd) (key : Keyed → O.α) (l : Bool) (k x : Keyed) : Bool := if l = true then O.blt (key x) (key k) else !(O.blt (key k) (key x))
theorem elem_ok {arr : Array Keyed} {i : Nat} {x : Keyed} {Q : Keyed → SortSt → Prop} {st : SortSt} (hx : arr[i]? = some x) (h : Q x st) : wpS (model prog w) A E s (elem' arr i) Q st := by
  rw [elem'_eq, hx]
  exact wpS_pure h
theorem beyond_ok {l : Bool} {k x : Keyed} {arr : Array Keyed} {i : Nat} {Q : Option Bool → SortSt → Prop} {st : SortSt} (L : LtOk prog w A E s κ O key Good) (hk : Good k) (gx : Good x) (hx : arr[i]? = some x) (hst : kindOf st = κ) (h : Q (some (bnd O key l k x)) st) :
    wpS (model prog w) A E s (do let y ← elem' arr i; if l = true then lt' y k else do { let r ← lt' k y; pure (r.map fun z => !z) }) Q st := by
  refine wpS_bind (elem_ok hx ?_)
  unfold bnd at h
  cases l with
  | true =>
    rw [if_pos rfl] at h ⊢
    exact L x k gx hk _ st hst h
  | false =>
    rw [if_neg Bool.false_ne_true] at h ⊢
    exact wpS_bind (L k x hk gx _ st hst (wpS_pure h))
/-- the places parted in two -/
theorem bin_ok {n : Nat} {bb : Nat → Bool} {st : SortSt} {f : Nat → Option (Option Nat) × Nat × Nat → StateT SortSt Sem (ForInStep (Option (Option Nat) × Nat × Nat))} {Q : Option (Option Nat) × Nat × Nat → SortSt → Prop}
    (mono : ∀ i j, i ≤ j → j < n → bb j = true → bb i = true)
    (h1 : ∀ x lo hi (R : ForInStep (Option (Option Nat) × Nat × Nat) → SortSt → Prop), hi ≤ lo → R (.done (none, lo, hi)) st → wpS (model prog w) A E s (f x (none, lo, hi)) R st)
    (h2 : ∀ x lo hi (R : ForInStep (Option (Option Nat) × Nat × Nat) → SortSt → Prop), lo < hi → hi ≤ n → R (.yield (none, if bb (lo + (hi - lo) / 2) = true then lo + (hi - lo) / 2 + 1 else lo, if bb (lo + (hi - lo) / 2) = true then hi else lo + (hi - lo) / 2)) st → wpS (model prog w) A E s (f x (none, lo, hi)) R st)
    {lo hi : Nat} (hl : lo ≤ hi) (hh : hi ≤ n) (ha : ∀ i, i < lo → bb i = true) (hb : ∀ i, hi ≤ i → i < n → bb i = false)
    (h : ∀ lo r, r ≤ n → (∀ i, i < r → bb i = true) → (∀ i, r ≤ i → i < n → bb i = false) → Q (none, lo, r) st) : wpS (model prog w) A E s (forIn [0:n] (none, lo, hi) f) Q st := by
  refine wpS_forRange (I := fun i c st' => st' = st ∧ ∃ lo hi, c = (none, lo, hi) ∧ lo ≤ hi ∧ hi ≤ n ∧ hi - lo + i ≤ n ∧ (∀ i, i < lo → bb i = true) ∧ ∀ i, hi ≤ i → i < n → bb i = false) ?_ ?_ ⟨rfl, lo, hi, rfl, hl, hh, by omega, ha, hb⟩
  · rintro i c st' _ hi' ⟨rfl, lo, hi, rfl, hl, hh, hz, ha, hb⟩
    by_cases e : hi ≤ lo
    · obtain rfl : lo = hi := by omega
      exact h1 i lo lo _ e (h lo lo hh ha hb)
    · refine h2 i lo hi _ (by omega) hh ⟨rfl, _, _, rfl, ?_⟩
      cases q : bb (lo + (hi - lo) / 2) with
      | true =>
        rw [if_pos rfl, if_pos rfl]
        exact ⟨by omega, hh, by omega, fun j hj => mono j _ (by omega) (by omega) q, hb⟩
      | false =>
        rw [if_neg Bool.false_ne_true, if_neg Bool.false_ne_true]
        refine ⟨by omega, by omega, by omega, ha, fun j hj hjn => ?_⟩
        cases z : bb j with
        | false => rfl
        | true => rw [mono _ j hj hjn z] at q; cases q
  · rintro c st' ⟨rfl, lo, hi, rfl, hl, hh, hz, ha, hb⟩
    obtain rfl : lo = hi := by omega
    exact h lo lo hh ha hb
theorem gallop_ok {l : Bool} {k : Keyed} {arr : Array Keyed} {b n hint : Nat} {Q : Option Nat → SortSt → Prop} {st : SortSt} {bb : Nat → Bool} (L : LtOk prog w A E s κ O key Good) (hk : Good k)
    (hg : ∀ i, i < n → ∃ x, arr[b + i]? = some x ∧ Good x ∧ bnd O key l k x = bb i) (mono : ∀ i j, i ≤ j → j < n → bb j = true → bb i = true) (hh : hint < n) (hst : kindOf st = κ)
    (h : ∀ r, r ≤ n → (∀ i, i < r → bb i = true) → (∀ i, r ≤ i → i < n → bb i = false) → Q (some r) st) : wpS (model prog w) A E s (gallop' l k arr b n hint) Q st := by
  have down : ∀ i j, bb i = false → i ≤ j → j < n → bb j = false := fun i j hi hij hj => by
    cases z : bb j with
    | false => rfl
    | true => rw [mono i j hij hj z] at hi; cases hi
  unfold gallop'
  obtain ⟨x, hx, gx, ex⟩ := hg hint hh
  refine wpS_bind (beyond_ok L hk gx hx hst ?_)
  rw [ex]
  dsimp only
  cases q : bb hint with
  | true =>
    rw [if_pos rfl]
    refine wpS_bind (wpS_mono (wpS_forRange (I := fun i c st' => st' = st ∧ ∃ last ofs, c = (none, last, ofs) ∧ hint + last < n ∧ bb (hint + last) = true ∧ last < ofs ∧ i + 1 ≤ ofs)
      (Q := fun c st' => st' = st ∧ ∃ last ofs, c = (none, last, ofs) ∧ hint + last < n ∧ bb (hint + last) = true ∧ last < ofs ∧ (n - hint ≤ ofs ∨ (hint + ofs < n ∧ bb (hint + ofs) = false))) ?_ ?_ ⟨rfl, 0, 1, rfl, hh, q, by omega, by omega⟩) ?_)
    · rintro i c st' _ hi ⟨rfl, last, ofs, rfl, l1, l2, l3, l4⟩
      dsimp only
      by_cases e : ofs ≥ n - hint
      · rw [if_pos e]
        exact wpS_pure ⟨rfl, last, ofs, rfl, l1, l2, l3, .inl e⟩
      · rw [if_neg e]
        obtain ⟨y, hy, gy, ey⟩ := hg (hint + ofs) (by omega)
        refine wpS_bind (beyond_ok L hk gy hy hst ?_)
        rw [ey]
        dsimp only
        cases z : bb (hint + ofs) with
        | false => exact wpS_pure ⟨rfl, last, ofs, rfl, l1, l2, l3, .inr ⟨by omega, z⟩⟩
        | true => exact wpS_pure ⟨rfl, ofs, 2 * ofs + 1, rfl, by omega, z, by omega, by omega⟩
    · rintro c st' ⟨rfl, last, ofs, rfl, l1, l2, l3, l4⟩
      exact ⟨rfl, last, ofs, rfl, l1, l2, l3, .inl (by omega)⟩
    · rintro c st' ⟨rfl, last, ofs, rfl, l1, l2, l3, l4⟩
      dsimp only
      refine wpS_bind (bin_ok (bb := bb) mono ?_ ?_ (by omega) (by omega) (fun i hi => mono i _ (by omega) l1 l2) (fun i hi hin => ?_) fun lo r r1 r2 r3 => ?_)
      · intro x lo hi R hle hR
        dsimp only
        rw [if_pos hle]
        exact wpS_pure hR
      · intro x lo hi R hlt hn hR
        dsimp only
        rw [if_neg (by omega)]
        obtain ⟨y, hy, gy, ey⟩ := hg (lo + (hi - lo) / 2) (by omega)
        refine wpS_bind (beyond_ok L hk gy hy hst ?_)
        rw [ey]
        dsimp only
        cases z : bb (lo + (hi - lo) / 2) with
        | false =>
          rw [z] at hR
          exact wpS_pure hR
        | true =>
          rw [z] at hR
          exact wpS_pure hR
      · rcases l4 with l4 | ⟨l4, l5⟩
        · omega
        · exact down (hint + ofs) i l5 (by omega) hin
      · exact wpS_pure (h r r1 r2 r3)
  | false =>
    rw [if_neg Bool.false_ne_true]
    refine wpS_bind (wpS_mono (wpS_forRange (I := fun i c st' => st' = st ∧ ∃ last ofs, c = (none, last, ofs) ∧ last ≤ hint ∧ bb (hint - last) = false ∧ last < ofs ∧ i + 1 ≤ ofs)
      (Q := fun c st' => st' = st ∧ ∃ last ofs, c = (none, last, ofs) ∧ last ≤ hint ∧ bb (hint - last) = false ∧ last < ofs ∧ (hint + 1 ≤ ofs ∨ (ofs ≤ hint ∧ bb (hint - ofs) = true))) ?_ ?_ ⟨rfl, 0, 1, rfl, by omega, q, by omega, by omega⟩) ?_)
    · rintro i c st' _ hi ⟨rfl, last, ofs, rfl, l1, l2, l3, l4⟩
      dsimp only
      by_cases e : ofs ≥ hint + 1
      · rw [if_pos e]
        exact wpS_pure ⟨rfl, last, ofs, rfl, l1, l2, l3, .inl e⟩
      · rw [if_neg e]
        obtain ⟨y, hy, gy, ey⟩ := hg (hint - ofs) (by omega)
        refine wpS_bind (beyond_ok L hk gy hy hst ?_)
        rw [ey]
        dsimp only
        cases z : bb (hint - ofs) with
        | true => exact wpS_pure ⟨rfl, last, ofs, rfl, l1, l2, l3, .inr ⟨by omega, z⟩⟩
        | false => exact wpS_pure ⟨rfl, ofs, 2 * ofs + 1, rfl, by omega, z, by omega, by omega⟩
    · rintro c st' ⟨rfl, last, ofs, rfl, l1, l2, l3, l4⟩
      exact ⟨rfl, last, ofs, rfl, l1, l2, l3, .inl (by omega)⟩
    · rintro c st' ⟨rfl, last, ofs, rfl, l1, l2, l3, l4⟩
      dsimp only
      refine wpS_bind (bin_ok (bb := bb) mono ?_ ?_ (by omega) (by omega) (fun i hi => ?_) (fun i hi hin => down _ i l2 (by omega) hin) fun lo r r1 r2 r3 => ?_)
      · intro x lo hi R hle hR
        dsimp only
        rw [if_pos hle]
        exact wpS_pure hR
      · intro x lo hi R hlt hn hR
        dsimp only
        rw [if_neg (by omega)]
        obtain ⟨y, hy, gy, ey⟩ := hg (lo + (hi - lo) / 2) (by omega)
        refine wpS_bind (beyond_ok L hk gy hy hst ?_)
        rw [ey]
        dsimp only
        cases z : bb (lo + (hi - lo) / 2) with
        | false =>
          rw [z] at hR
          exact wpS_pure hR
        | true =>
          rw [z] at hR
          exact wpS_pure hR
      · rcases l4 with l4 | ⟨l4, l5⟩
        · omega
        · exact mono i (hint - ofs) (by omega) (by omega) l5
      · exact wpS_pure (h r r1 r2 r3)
end
end Ts

/-! ### two runs merged from their low ends -/
namespace Ts
open PySem PyProof.Rows
section
variable {O : KeyOrd} {key : Keyed → O.α}
/-- in order -/
def Le (O : KeyOrd) (key : Keyed → O.α) (x y : Keyed) : Prop := O.kle (key x) (key y)
theorem Le.trans {x y z : Keyed} (h : Le O key x y) (k : Le O key y z) : Le O key x z := KeyOrd.kle_trans h k
theorem le_of_lt {x y : Keyed} (h : O.blt (key x) (key y) = true) : Le O key x y := KeyOrd.kle_of_klt h
theorem le_of_nlt {x y : Keyed} (h : O.blt (key x) (key y) = false) : Le O key y x := h
/-- what has been put out: the first ia of al, the first ib of bl, in order, and nothing that is left is less -/
structure Mg (O : KeyOrd) (key : Keyed → O.α) (al bl : List Keyed) (out : Array Keyed) (ia ib : Nat) : Prop where
  perm : out.toList.Perm (al.take ia ++ bl.take ib)
  srt : out.toList.Pairwise (Le O key)
  ale : ∀ x ∈ out.toList, ∀ y ∈ al.drop ia, Le O key x y
  ble : ∀ x ∈ out.toList, ∀ y ∈ bl.drop ib, Le O key x y
variable {al bl : List Keyed} {out : Array Keyed} {ia ib : Nat}
theorem take_add (l : List Keyed) (i k : Nat) : l.take (i + k) = l.take i ++ (l.drop i).take k := by
  rw [List.take_add]
theorem drop_add' (l : List Keyed) (i k : Nat) : l.drop (i + k) = (l.drop i).drop k := by rw [List.drop_drop]
/-- k items of al more -/
theorem Mg.app {k : Nat} {more : Array Keyed} (M : Mg O key al bl out ia ib) (sa : al.Pairwise (Le O key)) (hm : more.toList = (al.drop ia).take k) (h : ∀ x ∈ (al.drop ia).take k, ∀ y ∈ bl.drop ib, Le O key x y) : Mg O key al bl (out ++ more) (ia + k) ib := by
  have sd : (al.drop ia).Pairwise (Le O key) := sa.sublist (List.drop_sublist _ _)
  have sp : (al.drop ia).take k ++ (al.drop ia).drop k = al.drop ia := List.take_append_drop _ _
  have sc := sd
  rw [← sp, List.pairwise_append] at sc
  refine ⟨?_, ?_, fun x hx y hy => ?_, fun x hx y hy => ?_⟩
  · rw [Array.toList_append, hm, take_add]
    refine (M.perm.append_right _).trans ?_
    rw [List.append_assoc, List.append_assoc]
    exact List.Perm.append_left _ List.perm_append_comm
  · rw [Array.toList_append, hm, List.pairwise_append]
    exact ⟨M.srt, sc.1, fun x hx y hy => M.ale x hx y (List.mem_of_mem_take hy)⟩
  · rw [drop_add'] at hy
    rw [Array.toList_append, hm] at hx
    rcases List.mem_append.mp hx with hx | hx
    · exact M.ale x hx y (List.mem_of_mem_drop hy)
    · exact sc.2.2 x hx y hy
  · rw [Array.toList_append, hm] at hx
    rcases List.mem_append.mp hx with hx | hx
    · exact M.ble x hx y hy
    · exact h x hx y hy
theorem Mg.swap (M : Mg O key al bl out ia ib) : Mg O key bl al out ib ia := ⟨M.perm.trans List.perm_append_comm, M.srt, M.ble, M.ale⟩
theorem Mg.push {x : Keyed} (M : Mg O key al bl out ia ib) (sa : al.Pairwise (Le O key)) (hx : al[ia]? = some x) (h : ∀ y ∈ bl.drop ib, Le O key x y) : Mg O key al bl (out.push x) (ia + 1) ib := by
  have e : (al.drop ia).take 1 = [x] := by
    obtain ⟨hi, ex⟩ := List.getElem?_eq_some_iff.mp hx
    rw [List.drop_eq_getElem_cons hi, ex]
    rfl
  have := M.app (k := 1) (more := #[x]) sa (by rw [e]) (by rw [e]; intro z hz y hy; rw [List.mem_singleton] at hz; subst hz; exact h y hy)
  rwa [Array.append_singleton] at this
/-- merged -/
def Done (O : KeyOrd) (key : Keyed → O.α) (al bl : List Keyed) (r : Array Keyed) : Prop := r.toList.Perm (al ++ bl) ∧ r.toList.Pairwise (Le O key)
theorem Mg.fin {xs ys : Array Keyed} (M : Mg O key al bl out ia ib) (sa : al.Pairwise (Le O key)) (sb : bl.Pairwise (Le O key)) (hx : xs.toList = al.drop ia) (hy : ys.toList = bl.drop ib) (h : ∀ x ∈ al.drop ia, ∀ y ∈ bl.drop ib, Le O key x y) : Done O key al bl (out ++ xs ++ ys) := by
  constructor
  · rw [Array.toList_append, Array.toList_append, hx, hy]
    have e1 : al.Perm (al.take ia ++ al.drop ia) := by rw [List.take_append_drop]
    have e2 : bl.Perm (bl.take ib ++ bl.drop ib) := by rw [List.take_append_drop]
    refine ((M.perm.append_right _).append_right _).trans ?_
    refine List.Perm.trans ?_ (e1.append e2).symm
    rw [List.append_assoc, List.append_assoc, List.append_assoc]
    refine List.Perm.append_left _ ?_
    rw [← List.append_assoc, ← List.append_assoc]
    exact List.Perm.append_right _ List.perm_append_comm
  · rw [Array.toList_append, Array.toList_append, hx, hy, List.pairwise_append, List.pairwise_append]
    refine ⟨⟨M.srt, sa.sublist (List.drop_sublist _ _), M.ale⟩, sb.sublist (List.drop_sublist _ _), fun x hx y hy => ?_⟩
    rcases List.mem_append.mp hx with hx | hx
    · exact M.ble x hx y hy
    · exact h x hx y hy
theorem Done.swap {r : Array Keyed} (D : Done O key bl al r) : Done O key al bl r := ⟨D.1.trans List.perm_append_comm, D.2⟩
theorem ext_drop (a : Array Keyed) (i : Nat) : (a.extract i a.size).toList = a.toList.drop i := by
  rw [Array.toList_extract, List.extract_eq_take_drop]
  rw [List.take_of_length_le (by rw [List.length_drop, Array.length_toList]; exact Nat.le_refl _)]
theorem ext_take (a : Array Keyed) (i k : Nat) : (a.extract i (i + k)).toList = (a.toList.drop i).take k := by
  rw [Array.toList_extract, List.extract_eq_take_drop, Nat.add_sub_cancel_left]
theorem drop_nil {l : List Keyed} {i : Nat} (h : l.length ≤ i) : ∀ x ∈ l.drop i, False := fun x hx => by
  rw [List.drop_of_length_le h] at hx
  cases hx
theorem drop_at {l : List Keyed} {i : Nat} {x : Keyed} (h : x ∈ l.drop i) : ∃ j, i ≤ j ∧ l[j]? = some x := by
  obtain ⟨j, hj, e⟩ := List.getElem_of_mem h
  rw [List.length_drop] at hj
  refine ⟨i + j, by omega, ?_⟩
  rw [← e]
  simp
theorem take_at {l : List Keyed} {i k : Nat} {x : Keyed} (h : x ∈ (l.drop i).take k) : ∃ j, j < k ∧ l[i + j]? = some x := by
  obtain ⟨j, hj, e⟩ := List.getElem_of_mem h
  rw [List.length_take, List.length_drop] at hj
  refine ⟨j, by omega, ?_⟩
  rw [← e]
  simp
theorem le_at {l : List Keyed} (sl : l.Pairwise (Le O key)) {i j : Nat} {x y : Keyed} (hx : l[i]? = some x) (hy : l[j]? = some y) (h : i ≤ j) : Le O key x y := by
  by_cases e : i = j
  · subst e
    rw [hx] at hy
    cases hy
    exact KeyOrd.kle_refl _
  · obtain ⟨h1, e1⟩ := List.getElem?_eq_some_iff.mp hx
    obtain ⟨h2, e2⟩ := List.getElem?_eq_some_iff.mp hy
    rw [List.pairwise_iff_getElem] at sl
    have := sl i j h1 h2 (by omega)
    rw [e1, e2] at this
    exact this
end
section
variable {prog : Program} {w : World} {A : Around} {E : Value → Shared → Prop} {s : Shared} {κ : SortKind} {O : KeyOrd} {key : Keyed → O.α} {Good : Keyed → Prop}
/-- all but the wins that gallop wants -/
structure Sm (κ : SortKind) (st st' : SortSt) : Prop where
  kind : kindOf st' = κ
  arr : arrOf st' = arrOf st
  pend : pendingOf st' = pendingOf st
  fail : failedOf st' = failedOf st
theorem arr_at {a : Array Keyed} {i : Nat} (h : i < a.size) : ∃ x, a[i]? = some x ∧ a.toList[i]? = some x := ⟨a[i], by simp [h], by simp [h]⟩
/-- gallop to the right of y in a, from ia on -/
theorem gal_right {a : Array Keyed} {ia : Nat} {y : Keyed} {Q : Option Nat → SortSt → Prop} {st : SortSt} (L : LtOk prog w A E s κ O key Good) (ga : ∀ x ∈ a.toList, Good x) (gy : Good y) (sa : a.toList.Pairwise (Le O key)) (hi : ia < a.size) (hst : kindOf st = κ)
    (h : ∀ k, ia + k ≤ a.size → (∀ x ∈ (a.toList.drop ia).take k, Le O key x y) → (∀ x ∈ a.toList.drop (ia + k), Le O key y x) → Q (some k) st) : wpS (model prog w) A E s (gallop' false y a ia (a.size - ia) 0) Q st := by
  have at_ : ∀ i, i < a.size - ia → ∃ x, a[ia + i]? = some x ∧ a.toList[ia + i]? = some x := fun i hi => arr_at (by omega)
  have key' : ∀ i, i < a.size - ia → ∃ x, a[ia + i]? = some x ∧ Good x ∧ bnd O key false y x = (match a[ia + i]? with | some x => !(O.blt (key y) (key x)) | none => false) := fun i hi => by
    obtain ⟨x, h1, h2⟩ := at_ i hi
    refine ⟨x, h1, ga x (List.mem_of_getElem? h2), ?_⟩
    rw [h1]
    rfl
  refine gallop_ok (bb := fun i => match a[ia + i]? with | some x => !(O.blt (key y) (key x)) | none => false) L gy key' (fun i j hij hj hb => ?_) (by omega) hst fun r r1 r2 r3 => h r (by omega) (fun x hx => ?_) (fun x hx => ?_)
  · obtain ⟨x, h1, h2⟩ := at_ i (by omega)
    obtain ⟨z, h3, h4⟩ := at_ j hj
    simp only [h1, h3] at hb ⊢
    have lz : Le O key z y := by
      have : O.blt (key y) (key z) = false := by simpa using hb
      exact this
    have : Le O key x y := (le_at sa h2 h4 (by omega)).trans lz
    have : O.blt (key y) (key x) = false := this
    rw [this]; rfl
  · obtain ⟨j, hj, ej⟩ := take_at hx
    have := r2 j hj
    have e : a[ia + j]? = some x := by simpa using ej
    simp only [e] at this
    have : O.blt (key y) (key x) = false := by simpa using this
    exact this
  · obtain ⟨j, hj, ej⟩ := drop_at hx
    have hjl : j < a.size := by have := (List.getElem?_eq_some_iff.mp ej).1; simpa using this
    have e : a[ia + (j - ia)]? = some x := by rw [show ia + (j - ia) = j by omega]; simpa using ej
    have := r3 (j - ia) (by omega) (by omega)
    simp only [e] at this
    have : O.blt (key y) (key x) = true := by simpa using this
    exact le_of_lt this
/-- gallop to the left of x in b, from ib on -/
theorem gal_left {b : Array Keyed} {ib : Nat} {x : Keyed} {Q : Option Nat → SortSt → Prop} {st : SortSt} (L : LtOk prog w A E s κ O key Good) (gb : ∀ x ∈ b.toList, Good x) (gx : Good x) (sb : b.toList.Pairwise (Le O key)) (hi : ib < b.size) (hst : kindOf st = κ)
    (h : ∀ k, ib + k ≤ b.size → (∀ y ∈ (b.toList.drop ib).take k, Le O key y x) → (∀ y ∈ b.toList.drop (ib + k), Le O key x y) → Q (some k) st) : wpS (model prog w) A E s (gallop' true x b ib (b.size - ib) 0) Q st := by
  have at_ : ∀ i, i < b.size - ib → ∃ x, b[ib + i]? = some x ∧ b.toList[ib + i]? = some x := fun i hi => arr_at (by omega)
  have key' : ∀ i, i < b.size - ib → ∃ y, b[ib + i]? = some y ∧ Good y ∧ bnd O key true x y = (match b[ib + i]? with | some y => O.blt (key y) (key x) | none => false) := fun i hi => by
    obtain ⟨y, h1, h2⟩ := at_ i hi
    refine ⟨y, h1, gb y (List.mem_of_getElem? h2), ?_⟩
    rw [h1]
    rfl
  refine gallop_ok (bb := fun i => match b[ib + i]? with | some y => O.blt (key y) (key x) | none => false) L gx key' (fun i j hij hj hb => ?_) (by omega) hst fun r r1 r2 r3 => h r (by omega) (fun y hy => ?_) (fun y hy => ?_)
  · obtain ⟨y, h1, h2⟩ := at_ i (by omega)
    obtain ⟨z, h3, h4⟩ := at_ j hj
    simp only [h1, h3] at hb ⊢
    exact KeyOrd.klt_of_kle_of_klt (le_at sb h2 h4 (by omega)) hb
  · obtain ⟨j, hj, ej⟩ := take_at hy
    have := r2 j hj
    have e : b[ib + j]? = some y := by simpa using ej
    simp only [e] at this
    exact le_of_lt this
  · obtain ⟨j, hj, ej⟩ := drop_at hy
    have hjl : j < b.size := by have := (List.getElem?_eq_some_iff.mp ej).1; simpa using this
    have e : b[ib + (j - ib)]? = some y := by rw [show ib + (j - ib) = j by omega]; simpa using ej
    have := r3 (j - ib) (by omega) (by omega)
    simp only [e] at this
    exact this
end
end Ts

namespace Ts
open PySem PyProof.Rows
section
variable {prog : Program} {w : World} {A : Around} {E : Value → Shared → Prop} {s : Shared} {κ : SortKind} {O : KeyOrd} {key : Keyed → O.α} {Good : Keyed → Prop}
/-- between two steps of the merge -/
structure Cu (O : KeyOrd) (key : Keyed → O.α) (a b : Array Keyed) (out : Array Keyed) (ia ib : Nat) : Prop where
  mg : Mg O key a.toList b.toList out ia ib
  la : ia + 1 < a.size
  lb : ib < b.size
abbrev Fi (O : KeyOrd) (key : Keyed → O.α) (a b r : Array Keyed) : Prop := Done O key a.toList b.toList r
section
variable {a b out : Array Keyed} {ia ib : Nat}
theorem fin_b (M : Mg O key a.toList b.toList out ia ib) (sa : a.toList.Pairwise (Le O key)) (sb : b.toList.Pairwise (Le O key)) (h : (ib == b.size) = true) : Fi O key a b (out ++ a.extract ia a.size ++ b.extract ib b.size) :=
  M.fin sa sb (ext_drop _ _) (ext_drop _ _) fun _ _ y hy => (drop_nil (by rw [Array.length_toList]; exact Nat.le_of_eq (beq_iff_eq.mp h).symm) y hy).elim
theorem fin_a (M : Mg O key a.toList b.toList out ia ib) (sa : a.toList.Pairwise (Le O key)) (sb : b.toList.Pairwise (Le O key)) (h : (ia == a.size) = true) : Fi O key a b (out ++ a.extract ia a.size ++ b.extract ib b.size) :=
  M.fin sa sb (ext_drop _ _) (ext_drop _ _) fun x hx _ _ => (drop_nil (by rw [Array.length_toList]; exact Nat.le_of_eq (beq_iff_eq.mp h).symm) x hx).elim
theorem fin_last (M : Mg O key a.toList b.toList out ia ib) (sa : a.toList.Pairwise (Le O key)) (sb : b.toList.Pairwise (Le O key)) (hl : ∀ y ∈ b.toList, ∀ x, a.toList[a.size - 1]? = some x → Le O key y x) (h : (ia + 1 == a.size) = true) :
    Fi O key a b (out ++ b.extract ib b.size ++ a.extract ia a.size) := by
  refine (M.swap.fin sb sa (ext_drop _ _) (ext_drop _ _) fun y hy x hx => ?_).swap
  obtain ⟨j, hj, ej⟩ := drop_at hx
  have hjl : j < a.size := by have := (List.getElem?_eq_some_iff.mp ej).1; simpa using this
  have h := beq_iff_eq.mp h
  exact hl y (List.mem_of_mem_drop hy) x (by rw [show a.size - 1 = j by omega]; exact ej)
end
theorem ite_ok {α : Type} {c : Prop} [Decidable c] {m1 m2 : StateT SortSt Sem α} {Q : α → SortSt → Prop} {st : SortSt} (h1 : c → wpS (model prog w) A E s m1 Q st) (h2 : ¬ c → wpS (model prog w) A E s m2 Q st) : wpS (model prog w) A E s (if c then m1 else m2) Q st := by
  by_cases h : c
  · rw [if_pos h]; exact h1 h
  · rw [if_neg h]; exact h2 h
theorem ext_zero (a : Array Keyed) (i : Nat) : a.extract i (i + 0) = #[] := by
  apply Array.ext'
  rw [ext_take, List.take_zero]
theorem ne_of_beq {m n : Nat} (h : ¬ (m == n) = true) : m ≠ n := fun z => h (beq_iff_eq.mpr z)
theorem mergeLo_ok {a b : Array Keyed} {st : SortSt} {Q : Array Keyed → SortSt → Prop} (L : LtOk prog w A E s κ O key Good) (ga : ∀ x ∈ a.toList, Good x) (gb : ∀ x ∈ b.toList, Good x) (sa : a.toList.Pairwise (Le O key)) (sb : b.toList.Pairwise (Le O key))
    (na : 0 < a.size) (nb : 0 < b.size) (hf : ∀ x, a.toList[0]? = some x → ∀ y, b.toList[0]? = some y → Le O key y x) (hl : ∀ y ∈ b.toList, ∀ x, a.toList[a.size - 1]? = some x → Le O key y x) (hst : kindOf st = κ)
    (h : ∀ r st', Fi O key a b r → Sm κ st st' → Q r st') : wpS (model prog w) A E s (mergeLo' a b) Q st := by
  unfold mergeLo'
  refine wpS_bind (wpS_lift (wpAny_rule ⟨rfl, ?_⟩))
  dsimp only
  obtain ⟨y0, hy0, ly0⟩ := arr_at nb
  have s0 : Sm κ st st := ⟨hst, rfl, rfl, rfl⟩
  have la0 : ∀ x ∈ a.toList.drop 0, Le O key y0 x := fun x hx => by
    obtain ⟨j, _, ej⟩ := drop_at hx
    obtain ⟨x0, _, lx0⟩ := arr_at na
    exact (hf x0 lx0 y0 ly0).trans (le_at sa lx0 ej (Nat.zero_le _))
  have M0 : Mg O key a.toList b.toList #[y0] 0 1 := by
    have : Mg O key b.toList a.toList #[] 0 0 := ⟨by simp, by simp, fun x hx => (by simp at hx), fun x hx => (by simp at hx)⟩
    have := (this.push sb ly0 la0).swap
    simpa using this
  refine wpS_bind (elem_ok hy0 ?_)
  by_cases e1 : (1 == b.size) = true
  · rw [if_pos e1]
    exact wpS_pure (h _ _ (fin_b M0 sa sb e1) s0)
  rw [if_neg e1]
  by_cases e2 : (0 + 1 == a.size) = true
  · rw [if_pos e2]
    exact wpS_pure (h _ _ (fin_last M0 sa sb hl e2) s0)
  rw [if_neg e2]
  have e1' : 1 ≠ b.size := fun z => e1 (beq_iff_eq.mpr z)
  have e2' : 0 + 1 ≠ a.size := fun z => e2 (beq_iff_eq.mpr z)
  refine wpS_bind (wpS_get ?_)
  refine wpS_bind (wpS_mono (wpS_forRange
    (I := fun i c st' => Sm κ st st' ∧ ∃ out ia ib g, c = (none, out, ia, ib, g) ∧ Cu O key a b out ia ib ∧ i + 1 ≤ ia + ib)
    (Q := fun c st' => Sm κ st st' ∧ ∃ r out ia ib g, c = (some r, out, ia, ib, g) ∧ Fi O key a b r) ?step ?fin ⟨s0, _, _, _, _, rfl, ⟨M0, by omega, by omega⟩, by omega⟩) ?post)
  case post =>
    rintro c st' ⟨s1, r, out, ia, ib, g, rfl, F⟩
    exact wpS_pure (h r st' F s1)
  case fin =>
    rintro c st' ⟨s1, out, ia, ib, g, rfl, C, hz⟩
    exfalso
    have := C.la
    have := C.lb
    omega
  case step =>
    rintro i c st' _ _ ⟨s1, out, ia, ib, g, rfl, C, hz⟩
    dsimp only
    -- one pair at a time
    refine wpS_bind (wpS_mono (wpS_forRange
      (I := fun _ c st' => Sm κ st st' ∧ ∃ out ia ib ac bc, c = (none, out, ia, ib, ac, bc) ∧ Cu O key a b out ia ib ∧ i + 1 ≤ ia + ib)
      (Q := fun c st' => Sm κ st st' ∧ ((∃ r out ia ib ac bc, c = (some r, out, ia, ib, ac, bc) ∧ Fi O key a b r) ∨ ∃ out ia ib ac bc, c = (none, out, ia, ib, ac, bc) ∧ Cu O key a b out ia ib ∧ i + 1 ≤ ia + ib)) ?step1 ?fin1 ⟨s1, _, _, _, _, _, rfl, C, hz⟩) ?post1)
    case fin1 => exact fun c st' h => ⟨h.1, .inr h.2⟩
    case step1 =>
      rintro j c st2 _ _ ⟨s2, out, ia, ib, ac, bc, rfl, C, hz⟩
      dsimp only
      obtain ⟨y, hy, ly⟩ := arr_at C.lb
      obtain ⟨x, hx, lx⟩ := arr_at (show ia < a.size by have := C.la; omega)
      have la := C.la
      have lb := C.lb
      refine wpS_bind (elem_ok hy (wpS_bind (elem_ok hx (wpS_bind (L y x (gb y (List.mem_of_getElem? ly)) (ga x (List.mem_of_getElem? lx)) _ _ s2.kind ?_)))))
      cases q : O.blt (key y) (key x) with
      | true =>
        dsimp only
        rw [if_pos rfl]
        refine wpS_bind (elem_ok hy ?_)
        have M1 := (C.mg.swap.push sb ly fun z hz => by
          obtain ⟨j, hj, ej⟩ := drop_at hz
          exact (le_of_lt q).trans (le_at sa lx ej hj)).swap
        by_cases f1 : (ib + 1 == b.size) = true
        · rw [if_pos f1]
          exact wpS_pure ⟨s2, .inl ⟨_, _, _, _, _, _, rfl, fin_b M1 sa sb f1⟩⟩
        · rw [if_neg f1]
          have f1' : ib + 1 ≠ b.size := fun z => f1 (beq_iff_eq.mpr z)
          have C1 : Cu O key a b (out.push y) ia (ib + 1) := ⟨M1, la, by omega⟩
          split
          · exact wpS_pure ⟨s2, .inr ⟨_, _, _, _, _, rfl, C1, by omega⟩⟩
          · exact wpS_pure ⟨s2, _, _, _, _, _, rfl, C1, by omega⟩
      | false =>
        dsimp only
        rw [if_neg Bool.false_ne_true]
        refine wpS_bind (elem_ok hx ?_)
        have M1 := C.mg.push sa lx fun z hz => by
          obtain ⟨j, hj, ej⟩ := drop_at hz
          exact (le_of_nlt q).trans (le_at sb ly ej hj)
        by_cases f1 : (ia + 1 + 1 == a.size) = true
        · rw [if_pos f1]
          exact wpS_pure ⟨s2, .inl ⟨_, _, _, _, _, _, rfl, fin_last M1 sa sb hl f1⟩⟩
        · rw [if_neg f1]
          have f1' : ia + 1 + 1 ≠ a.size := fun z => f1 (beq_iff_eq.mpr z)
          have C1 : Cu O key a b (out.push x) (ia + 1) ib := ⟨M1, by omega, lb⟩
          split
          · exact wpS_pure ⟨s2, .inr ⟨_, _, _, _, _, rfl, C1, by omega⟩⟩
          · exact wpS_pure ⟨s2, _, _, _, _, _, rfl, C1, by omega⟩
    case post1 =>
      rintro c st2 ⟨s2, ⟨r, out, ia, ib, ac, bc, rfl, F⟩ | ⟨out, ia, ib, ac, bc, rfl, C, hz⟩⟩
      · exact wpS_pure ⟨s2, r, _, _, _, _, rfl, F⟩
      dsimp only
      refine wpS_bind (wpS_lift (wpAny_rule ⟨rfl, ?_⟩))
      -- gallop
      refine wpS_bind (wpS_mono (wpS_forRange
        (I := fun j c st' => Sm κ st st' ∧ ∃ out ia ib g ac bc, c = (none, out, ia, ib, g, ac, bc) ∧ Cu O key a b out ia ib ∧ i + 1 + j ≤ ia + ib)
        (Q := fun c st' => Sm κ st st' ∧ ((∃ r out ia ib g ac bc, c = (some r, out, ia, ib, g, ac, bc) ∧ Fi O key a b r) ∨ ∃ out ia ib g ac bc, c = (none, out, ia, ib, g, ac, bc) ∧ Cu O key a b out ia ib ∧ i + 2 ≤ ia + ib)) ?step2 ?fin2 ⟨s2, _, _, _, _, _, _, rfl, C, hz⟩) ?post2)
      case fin2 =>
        rintro c st' ⟨s3, out, ia, ib, g, ac, bc, rfl, C, hz⟩
        exact ⟨s3, .inr ⟨_, _, _, _, _, _, rfl, C, by omega⟩⟩
      case post2 =>
        rintro c st3 ⟨s3, ⟨r, out, ia, ib, g, ac, bc, rfl, F⟩ | ⟨out, ia, ib, g, ac, bc, rfl, C, hz⟩⟩
        · exact wpS_pure ⟨s3, r, _, _, _, _, rfl, F⟩
        · dsimp only
          refine wpS_bind (wpS_modify ?_)
          exact wpS_pure ⟨⟨s3.kind, s3.arr, s3.pend, s3.fail⟩, _, _, _, _, rfl, C, by omega⟩
      case step2 =>
        rintro j c st3 _ _ ⟨s3, out, ia, ib, g, ac, bc, rfl, C, hz⟩
        dsimp only
        obtain ⟨y, hy, ly⟩ := arr_at C.lb
        have la := C.la
        have lb := C.lb
        have gy := gb y (List.mem_of_getElem? ly)
        refine ite_ok (fun _ => ?_) (fun _ => ?_)
        all_goals
          refine wpS_bind (wpS_modify ?_)
          refine wpS_bind (elem_ok hy ?_)
          refine wpS_bind (gal_right L ga gy sa (by omega) s3.kind fun k hk k1 k2 => ?_)
          dsimp only
          have M1 : Mg O key a.toList b.toList (out ++ a.extract ia (ia + k)) (ia + k) ib := C.mg.app sa (ext_take _ _ _) fun x hx z hz => by
            obtain ⟨j, hj, ej⟩ := drop_at hz
            exact (k1 x hx).trans (le_at sb ly ej hj)
          have M2 := (M1.swap.push sb ly k2).swap
          refine ite_ok (fun hk0 => ite_ok (fun f1 => wpS_pure ⟨⟨s3.kind, s3.arr, s3.pend, s3.fail⟩, .inl ⟨_, _, _, _, _, _, _, rfl, fin_last M1 sa sb hl f1⟩⟩) (fun f1 => ite_ok (fun f2 => wpS_pure ⟨⟨s3.kind, s3.arr, s3.pend, s3.fail⟩, .inl ⟨_, _, _, _, _, _, _, rfl, fin_a M1 sa sb f2⟩⟩) (fun f2 => ?_))) (fun hk0 => ?_)
          have lk : ia + k + 1 < a.size := by
            have := ne_of_beq f1
            have := ne_of_beq f2
            omega
          rotate_left
          obtain rfl : k = 0 := by omega
          rw [ext_zero, Array.append_empty] at M2
          replace M2 : Mg O key a.toList b.toList (out.push y) ia (ib + 1) := M2
          have lk : ia + 1 < a.size := la
          all_goals
            refine wpS_bind (elem_ok hy ?_)
            refine ite_ok (fun f3 => wpS_pure ⟨⟨s3.kind, s3.arr, s3.pend, s3.fail⟩, .inl ⟨_, _, _, _, _, _, _, rfl, fin_b M2 sa sb f3⟩⟩) (fun f3 => ?_)
            have lb1 : ib + 1 < b.size := by
              have := ne_of_beq f3
              omega
            obtain ⟨x, hx, lx⟩ := arr_at (Nat.lt_of_succ_lt lk)
            have gx := ga x (List.mem_of_getElem? lx)
            refine wpS_bind (elem_ok hx ?_)
            refine wpS_bind (gal_left L gb gx sb lb1 s3.kind fun k' hk' k1' k2' => ?_)
            dsimp only
            have M3 := (M2.swap.app (k := k') (more := b.extract (ib + 1) (ib + 1 + k')) sb (ext_take _ _ _) fun z hz u hu => by
              obtain ⟨j, hj, ej⟩ := drop_at hu
              exact (k1' z hz).trans (le_at sa lx ej hj)).swap
            have M4 := M3.push sa lx k2'
            refine ite_ok (fun h1 => ite_ok (fun f4 => wpS_pure ⟨⟨s3.kind, s3.arr, s3.pend, s3.fail⟩, .inl ⟨_, _, _, _, _, _, _, rfl, fin_b M3 sa sb f4⟩⟩) (fun f4 => ?_)) (fun h1 => ?_)
            have lb2 : ib + 1 + k' < b.size := by
              have := ne_of_beq f4
              omega
            rotate_left
            obtain rfl : k' = 0 := by omega
            rw [ext_zero, Array.append_empty] at M4
            have lb2 : ib + 1 + 0 < b.size := lb1
            all_goals
              refine wpS_bind (elem_ok hx ?_)
              refine ite_ok (fun f5 => wpS_pure ⟨⟨s3.kind, s3.arr, s3.pend, s3.fail⟩, .inl ⟨_, _, _, _, _, _, _, rfl, fin_last M4 sa sb hl f5⟩⟩) (fun f5 => ?_)
              have f5' := ne_of_beq f5
              refine ite_ok (fun _ => wpS_pure ⟨⟨s3.kind, s3.arr, s3.pend, s3.fail⟩, .inr ⟨_, _, _, _, _, _, rfl, ⟨M4, by omega, lb2⟩, by omega⟩⟩) (fun _ => wpS_pure ⟨⟨s3.kind, s3.arr, s3.pend, s3.fail⟩, _, _, _, _, _, _, rfl, ⟨M4, by omega, lb2⟩, by omega⟩)
end
end Ts

/-! ### two runs merged from their high ends -/
namespace Ts
open PySem PyProof.Rows
/-- the order turned about -/
def rv (O : KeyOrd) : KeyOrd where
  α := O.α
  blt := fun x y => O.blt y x
  irrefl := O.irrefl
  trans := fun a b c h1 h2 => O.trans c b a h2 h1
  negTrans := fun a b c h => (O.negTrans c b a h).symm
  total := fun a b h1 h2 => O.total a b h2 h1
section
variable {O : KeyOrd} {key : Keyed → O.α}
abbrev Mh (O : KeyOrd) (key : Keyed → O.α) (a b out : Array Keyed) (na nb : Nat) : Prop := Mg (rv O) key a.toList.reverse b.toList.reverse out (a.size - na) (b.size - nb)
theorem srt_rev {l : List Keyed} (h : l.Pairwise (Le O key)) : l.reverse.Pairwise (Le (rv O) key) := by
  rw [List.pairwise_reverse]
  exact h
theorem rev_drop (l : List Keyed) {n : Nat} (h : n ≤ l.length) : l.reverse.drop (l.length - n) = (l.take n).reverse := by
  rw [List.drop_reverse]
  congr 2
  omega
variable {a b out : Array Keyed} {na nb : Nat}
theorem mem_rest {x : Keyed} (h : na ≤ a.size) (hx : x ∈ a.toList.reverse.drop (a.size - na)) : x ∈ a.toList.take na := by
  have := rev_drop a.toList (n := na) (by rw [Array.length_toList]; exact h)
  rw [Array.length_toList] at this
  rw [this] at hx
  exact List.mem_reverse.mp hx
theorem Mh.push {x : Keyed} (M : Mh O key a b out na nb) (sa : a.toList.Pairwise (Le O key)) (h0 : 0 < na) (h1 : na ≤ a.size) (h2 : nb ≤ b.size) (hx : a.toList[na - 1]? = some x) (h : ∀ y ∈ b.toList.take nb, Le O key y x) : Mh O key a b (out.push x) (na - 1) nb := by
  have e : a.toList.reverse[a.size - na]? = some x := by
    rw [List.getElem?_reverse (by rw [Array.length_toList]; omega), Array.length_toList]
    rw [show a.size - 1 - (a.size - na) = na - 1 by omega]
    exact hx
  have := Mg.push M (srt_rev sa) e fun y hy => h y (mem_rest h2 hy)
  show Mg (rv O) key _ _ _ (a.size - (na - 1)) _
  rw [show a.size - (na - 1) = a.size - na + 1 by omega]
  exact this
theorem ext_mid (a : Array Keyed) (m n : Nat) : (a.extract m n).toList = (a.toList.take n).drop m := by
  rw [Array.toList_extract, List.extract_eq_take_drop, List.drop_take]
theorem Mh.app {m : Nat} (M : Mh O key a b out na nb) (sa : a.toList.Pairwise (Le O key)) (hm : m ≤ na) (h1 : na ≤ a.size) (h2 : nb ≤ b.size) (h : ∀ x ∈ (a.toList.take na).drop m, ∀ y ∈ b.toList.take nb, Le O key y x) : Mh O key a b (out ++ (a.extract m na).reverse) m nb := by
  have e : (a.toList.reverse.drop (a.size - na)).take (na - m) = ((a.toList.take na).drop m).reverse := by
    have := rev_drop a.toList (n := na) (by rw [Array.length_toList]; exact h1)
    rw [Array.length_toList] at this
    rw [this, List.take_reverse]
    congr 2
    rw [List.length_take, Array.length_toList]
    omega
  have := Mg.app (k := na - m) (more := (a.extract m na).reverse) M (srt_rev sa) (by rw [Array.toList_reverse, ext_mid, e]) (by rw [e]; exact fun x hx y hy => h x (List.mem_reverse.mp hx) y (mem_rest h2 hy))
  show Mg (rv O) key _ _ _ (a.size - m) _
  rw [show a.size - m = a.size - na + (na - m) by omega]
  exact this
theorem done_rv {al bl : List Keyed} {r x : Array Keyed} (D : Done (rv O) key al.reverse bl.reverse r) (e : x.toList = r.toList.reverse) : Done O key al bl x := by
  constructor
  · rw [e]
    exact (List.reverse_perm _).trans (D.1.trans ((List.reverse_perm al).append (List.reverse_perm bl)))
  · rw [e, List.pairwise_reverse]
    exact D.2
theorem Mh.finB (M : Mh O key a b out na nb) (sa : a.toList.Pairwise (Le O key)) (sb : b.toList.Pairwise (Le O key)) (h1 : na ≤ a.size) (h2 : nb ≤ b.size) (h : ∀ x ∈ a.toList.take na, ∀ y ∈ b.toList.take nb, Le O key y x) :
    Done O key a.toList b.toList (b.extract 0 nb ++ a.extract 0 na ++ out.reverse) := by
  have ra := rev_drop a.toList (n := na) (by rw [Array.length_toList]; exact h1)
  have rb := rev_drop b.toList (n := nb) (by rw [Array.length_toList]; exact h2)
  rw [Array.length_toList] at ra rb
  refine done_rv (Mg.fin (xs := (a.toList.take na).reverse.toArray) (ys := (b.toList.take nb).reverse.toArray) M (srt_rev sa) (srt_rev sb) ra.symm rb.symm fun x hx y hy => h x (mem_rest h1 hx) y (mem_rest h2 hy)) ?_
  simp only [Array.toList_append, Array.toList_reverse, ext_mid, List.drop_zero, List.reverse_append, List.reverse_reverse, List.append_assoc]
theorem Mh.swap (M : Mh O key a b out na nb) : Mh O key b a out nb na := Mg.swap M
theorem Mh.finA (M : Mh O key a b out na nb) (sa : a.toList.Pairwise (Le O key)) (sb : b.toList.Pairwise (Le O key)) (h1 : na ≤ a.size) (h2 : nb ≤ b.size) (h : (na == 0) = true ∨ (nb == 0) = true) :
    Done O key a.toList b.toList (a.extract 0 na ++ b.extract 0 nb ++ out.reverse) := by
  refine (M.swap.finB sb sa h2 h1 fun y hy x hx => ?_).swap
  exfalso
  rcases h with h | h
  · rw [beq_iff_eq.mp h] at hx; simp at hx
  · rw [beq_iff_eq.mp h] at hy; simp at hy
end
section
variable {prog : Program} {w : World} {A : Around} {E : Value → Shared → Prop} {s : Shared} {κ : SortKind} {O : KeyOrd} {key : Keyed → O.α} {Good : Keyed → Prop}
/-- gallop over a part of an array -/
theorem gal_r {a : Array Keyed} {b n hint : Nat} {y : Keyed} {Q : Option Nat → SortSt → Prop} {st : SortSt} (L : LtOk prog w A E s κ O key Good) (gy : Good y) (ga : ∀ i, i < n → ∃ x, a[b + i]? = some x ∧ Good x)
    (sa : ∀ i j x z, i ≤ j → j < n → a[b + i]? = some x → a[b + j]? = some z → Le O key x z) (hi : hint < n) (hst : kindOf st = κ)
    (h : ∀ r, r ≤ n → (∀ i x, i < r → a[b + i]? = some x → Le O key x y) → (∀ i x, r ≤ i → i < n → a[b + i]? = some x → O.blt (key y) (key x) = true) → Q (some r) st) : wpS (model prog w) A E s (gallop' false y a b n hint) Q st := by
  have key' : ∀ i, i < n → ∃ x, a[b + i]? = some x ∧ Good x ∧ bnd O key false y x = (match a[b + i]? with | some x => !(O.blt (key y) (key x)) | none => false) := fun i hi => by
    obtain ⟨x, h1, h2⟩ := ga i hi
    refine ⟨x, h1, h2, ?_⟩
    rw [h1]
    rfl
  refine gallop_ok (bb := fun i => match a[b + i]? with | some x => !(O.blt (key y) (key x)) | none => false) L gy key' (fun i j hij hj hb => ?_) hi hst fun r r1 r2 r3 => h r r1 (fun i x hi ei => ?_) (fun i x hi hn ei => ?_)
  · obtain ⟨x, h1, _⟩ := ga i (by omega)
    obtain ⟨z, h3, _⟩ := ga j hj
    simp only [h1, h3] at hb ⊢
    have lz : Le O key z y := by
      have : O.blt (key y) (key z) = false := by simpa using hb
      exact this
    have : Le O key x y := (sa i j x z hij hj h1 h3).trans lz
    have : O.blt (key y) (key x) = false := this
    rw [this]; rfl
  · have := r2 i hi
    simp only [ei] at this
    have : O.blt (key y) (key x) = false := by simpa using this
    exact this
  · have := r3 i hi hn
    simp only [ei] at this
    simpa using this
theorem gal_l {a : Array Keyed} {b n hint : Nat} {y : Keyed} {Q : Option Nat → SortSt → Prop} {st : SortSt} (L : LtOk prog w A E s κ O key Good) (gy : Good y) (ga : ∀ i, i < n → ∃ x, a[b + i]? = some x ∧ Good x)
    (sa : ∀ i j x z, i ≤ j → j < n → a[b + i]? = some x → a[b + j]? = some z → Le O key x z) (hi : hint < n) (hst : kindOf st = κ)
    (h : ∀ r, r ≤ n → (∀ i x, i < r → a[b + i]? = some x → O.blt (key x) (key y) = true) → (∀ i x, r ≤ i → i < n → a[b + i]? = some x → Le O key y x) → Q (some r) st) : wpS (model prog w) A E s (gallop' true y a b n hint) Q st := by
  have key' : ∀ i, i < n → ∃ x, a[b + i]? = some x ∧ Good x ∧ bnd O key true y x = (match a[b + i]? with | some x => O.blt (key x) (key y) | none => false) := fun i hi => by
    obtain ⟨x, h1, h2⟩ := ga i hi
    refine ⟨x, h1, h2, ?_⟩
    rw [h1]
    rfl
  refine gallop_ok (bb := fun i => match a[b + i]? with | some x => O.blt (key x) (key y) | none => false) L gy key' (fun i j hij hj hb => ?_) hi hst fun r r1 r2 r3 => h r r1 (fun i x hi ei => ?_) (fun i x hi hn ei => ?_)
  · obtain ⟨x, h1, _⟩ := ga i (by omega)
    obtain ⟨z, h3, _⟩ := ga j hj
    simp only [h1, h3] at hb ⊢
    exact KeyOrd.klt_of_kle_of_klt (sa i j x z hij hj h1 h3) hb
  · have := r2 i hi
    simp only [ei] at this
    exact this
  · have := r3 i hi hn
    simp only [ei] at this
    exact this
structure Ch (O : KeyOrd) (key : Keyed → O.α) (a b out : Array Keyed) (na nb : Nat) : Prop where
  mg : Mh O key a b out na nb
  a0 : 0 < na
  a1 : na ≤ a.size
  b0 : 1 < nb
  b1 : nb ≤ b.size
theorem mid_at {l : List Keyed} {m n : Nat} {x : Keyed} (h : x ∈ (l.take n).drop m) : ∃ j, m ≤ j ∧ j < n ∧ l[j]? = some x := by
  obtain ⟨j, hj, ej⟩ := drop_at h
  have hl := (List.getElem?_eq_some_iff.mp ej).1
  rw [List.length_take] at hl
  rw [List.getElem?_take] at ej
  rw [if_pos (by omega)] at ej
  exact ⟨j, hj, by omega, ej⟩
theorem tk_at {l : List Keyed} {n : Nat} {x : Keyed} (h : x ∈ l.take n) : ∃ j, j < n ∧ l[j]? = some x := by
  obtain ⟨j, _, h2, h3⟩ := mid_at (m := 0) (l := l) (n := n) (x := x) (by rw [List.drop_zero]; exact h)
  exact ⟨j, h2, h3⟩
theorem mergeHi_ok {a b : Array Keyed} {st : SortSt} {Q : Array Keyed → SortSt → Prop} (L : LtOk prog w A E s κ O key Good) (ga : ∀ x ∈ a.toList, Good x) (gb : ∀ x ∈ b.toList, Good x) (sa : a.toList.Pairwise (Le O key)) (sb : b.toList.Pairwise (Le O key))
    (na : 0 < a.size) (nb : 0 < b.size) (hf : ∀ x, a.toList[0]? = some x → ∀ y, b.toList[0]? = some y → Le O key y x) (hl : ∀ y ∈ b.toList, ∀ x, a.toList[a.size - 1]? = some x → Le O key y x) (hst : kindOf st = κ)
    (h : ∀ r st', Fi O key a b r → Sm κ st st' → Q r st') : wpS (model prog w) A E s (mergeHi' a b) Q st := by
  have at_a : ∀ i, i < a.size → ∃ x, a[i]? = some x ∧ a.toList[i]? = some x ∧ Good x := fun i hi => by
    obtain ⟨x, h1, h2⟩ := arr_at hi
    exact ⟨x, h1, h2, ga x (List.mem_of_getElem? h2)⟩
  have at_b : ∀ i, i < b.size → ∃ x, b[i]? = some x ∧ b.toList[i]? = some x ∧ Good x := fun i hi => by
    obtain ⟨x, h1, h2⟩ := arr_at hi
    exact ⟨x, h1, h2, gb x (List.mem_of_getElem? h2)⟩
  have sg : ∀ {c : Array Keyed}, c.toList.Pairwise (Le O key) → ∀ n, n ≤ c.size → ∀ i j x z, i ≤ j → j < n → c[0 + i]? = some x → c[0 + j]? = some z → Le O key x z := fun {c} sc n hn i j x z hij hj hx hz => by
    rw [Nat.zero_add] at hx hz
    exact le_at sc (by simpa using hx) (by simpa using hz) hij
  -- the first of b is at most any of a
  have low : ∀ {n m}, m = 1 → ∀ x ∈ a.toList.take n, ∀ y ∈ b.toList.take m, Le O key y x := fun {n m} hm x hx y hy => by
    obtain ⟨i, _, ei⟩ := tk_at hx
    obtain ⟨j, hj, ej⟩ := tk_at hy
    obtain rfl : j = 0 := by omega
    obtain ⟨x0, _, lx0, _⟩ := at_a 0 na
    exact (hf x0 lx0 y ej).trans (le_at sa lx0 ei (Nat.zero_le _))
  unfold mergeHi'
  refine wpS_bind (wpS_lift (wpAny_rule ⟨rfl, ?_⟩))
  dsimp only
  obtain ⟨x0, hx0, lx0, _⟩ := at_a (a.size - 1) (by omega)
  have s0 : Sm κ st st := ⟨hst, rfl, rfl, rfl⟩
  have M0 : Mh O key a b #[x0] (a.size - 1) b.size := by
    have : Mh O key a b #[] a.size b.size := by
      show Mg (rv O) key _ _ #[] (a.size - a.size) (b.size - b.size)
      rw [Nat.sub_self, Nat.sub_self]
      exact ⟨by simp, by simp, fun x hx => (by simp at hx), fun x hx => (by simp at hx)⟩
    have := Mh.push this sa na (Nat.le_refl _) (Nat.le_refl _) lx0 fun y hy => hl y (List.mem_of_mem_take hy) x0 lx0
    simpa using this
  refine wpS_bind (elem_ok hx0 ?_)
  refine ite_ok (fun e1 => wpS_pure (h _ _ (M0.finA sa sb (by omega) (Nat.le_refl _) (.inl e1)) s0)) (fun e1 => ite_ok (fun e2 => wpS_pure (h _ _ (M0.finB sa sb (by omega) (Nat.le_refl _) (low (beq_iff_eq.mp e2))) s0)) (fun e2 => ?_))
  have e1' := ne_of_beq e1
  have e2' := ne_of_beq e2
  refine wpS_bind (wpS_get ?_)
  refine wpS_bind (wpS_mono (wpS_forRange
    (I := fun i c st' => Sm κ st st' ∧ ∃ na nb out g, c = (none, na, nb, out, g) ∧ Ch O key a b out na nb ∧ i + 1 + na + nb ≤ a.size + b.size)
    (Q := fun c st' => Sm κ st st' ∧ ∃ r na nb out g, c = (some r, na, nb, out, g) ∧ Fi O key a b r) ?step ?fin ⟨s0, _, _, _, _, rfl, ⟨M0, by omega, by omega, by omega, by omega⟩, by omega⟩) ?post)
  case post =>
    rintro c st' ⟨s1, r, na, nb, out, g, rfl, F⟩
    exact wpS_pure (h r st' F s1)
  case fin =>
    rintro c st' ⟨s1, na, nb, out, g, rfl, C, hz⟩
    exfalso
    have := C.a0
    omega
  case step =>
    rintro i c st' _ _ ⟨s1, na, nb, out, g, rfl, C, hz⟩
    dsimp only
    refine wpS_bind (wpS_mono (wpS_forRange
      (I := fun _ c st' => Sm κ st st' ∧ ∃ na nb out ac bc, c = (none, na, nb, out, ac, bc) ∧ Ch O key a b out na nb ∧ i + 1 + na + nb ≤ a.size + b.size)
      (Q := fun c st' => Sm κ st st' ∧ ((∃ r na nb out ac bc, c = (some r, na, nb, out, ac, bc) ∧ Fi O key a b r) ∨ ∃ na nb out ac bc, c = (none, na, nb, out, ac, bc) ∧ Ch O key a b out na nb ∧ i + 1 + na + nb ≤ a.size + b.size)) ?step1 ?fin1 ⟨s1, _, _, _, _, _, rfl, C, hz⟩) ?post1)
    case fin1 => exact fun c st' h => ⟨h.1, .inr h.2⟩
    case step1 =>
      rintro j c st2 _ _ ⟨s2, na, nb, out, ac, bc, rfl, C, hz⟩
      dsimp only
      obtain ⟨M, a0, a1, b0, b1⟩ := C
      obtain ⟨y, hy, ly, gy⟩ := at_b (nb - 1) (by omega)
      obtain ⟨x, hx, lx, gx⟩ := at_a (na - 1) (by omega)
      refine wpS_bind (elem_ok hy (wpS_bind (elem_ok hx (wpS_bind (L y x gy gx _ _ s2.kind ?_)))))
      cases q : O.blt (key y) (key x) with
      | true =>
        dsimp only
        rw [if_pos rfl]
        refine wpS_bind (elem_ok hx ?_)
        have M1 := M.push sa a0 a1 b1 lx fun z hz => by
          obtain ⟨j, hj, ej⟩ := tk_at hz
          exact (le_at sb ej ly (by omega)).trans (le_of_lt q)
        refine ite_ok (fun f1 => wpS_pure ⟨s2, .inl ⟨_, _, _, _, _, _, rfl, M1.finA sa sb (by omega) b1 (.inl f1)⟩⟩) (fun f1 => ?_)
        have f1' := ne_of_beq f1
        refine ite_ok (fun _ => wpS_pure ⟨s2, .inr ⟨_, _, _, _, _, rfl, ⟨M1, by omega, by omega, b0, b1⟩, by omega⟩⟩) (fun _ => wpS_pure ⟨s2, _, _, _, _, _, rfl, ⟨M1, by omega, by omega, b0, b1⟩, by omega⟩)
      | false =>
        dsimp only
        rw [if_neg Bool.false_ne_true]
        refine wpS_bind (elem_ok hy ?_)
        have M1 := (Mh.push M.swap sb (by omega) b1 a1 ly fun z hz => by
          obtain ⟨j, hj, ej⟩ := tk_at hz
          exact (le_at sa ej lx (by omega)).trans (le_of_nlt q)).swap
        refine ite_ok (fun f1 => wpS_pure ⟨s2, .inl ⟨_, _, _, _, _, _, rfl, M1.finB sa sb a1 (by omega) (low (beq_iff_eq.mp f1))⟩⟩) (fun f1 => ?_)
        have f1' := ne_of_beq f1
        refine ite_ok (fun _ => wpS_pure ⟨s2, .inr ⟨_, _, _, _, _, rfl, ⟨M1, a0, a1, by omega, by omega⟩, by omega⟩⟩) (fun _ => wpS_pure ⟨s2, _, _, _, _, _, rfl, ⟨M1, a0, a1, by omega, by omega⟩, by omega⟩)
    case post1 =>
      rintro c st2 ⟨s2, ⟨r, na, nb, out, ac, bc, rfl, F⟩ | ⟨na, nb, out, ac, bc, rfl, C, hz⟩⟩
      · exact wpS_pure ⟨s2, r, _, _, _, _, rfl, F⟩
      dsimp only
      refine wpS_bind (wpS_lift (wpAny_rule ⟨rfl, ?_⟩))
      refine wpS_bind (wpS_mono (wpS_forRange
        (I := fun j c st' => Sm κ st st' ∧ ∃ na nb out g ac bc, c = (none, na, nb, out, g, ac, bc) ∧ Ch O key a b out na nb ∧ i + 1 + j + na + nb ≤ a.size + b.size)
        (Q := fun c st' => Sm κ st st' ∧ ((∃ r na nb out g ac bc, c = (some r, na, nb, out, g, ac, bc) ∧ Fi O key a b r) ∨ ∃ na nb out g ac bc, c = (none, na, nb, out, g, ac, bc) ∧ Ch O key a b out na nb ∧ i + 2 + na + nb ≤ a.size + b.size)) ?step2 ?fin2 ⟨s2, _, _, _, _, _, _, rfl, C, hz⟩) ?post2)
      case fin2 =>
        rintro c st' ⟨s3, na, nb, out, g, ac, bc, rfl, C, hz⟩
        exact ⟨s3, .inr ⟨_, _, _, _, _, _, rfl, C, by omega⟩⟩
      case post2 =>
        rintro c st3 ⟨s3, ⟨r, na, nb, out, g, ac, bc, rfl, F⟩ | ⟨na, nb, out, g, ac, bc, rfl, C, hz⟩⟩
        · exact wpS_pure ⟨s3, r, _, _, _, _, rfl, F⟩
        · dsimp only
          refine wpS_bind (wpS_modify ?_)
          exact wpS_pure ⟨⟨s3.kind, s3.arr, s3.pend, s3.fail⟩, _, _, _, _, rfl, C, by omega⟩
      case step2 =>
        rintro j c st3 _ _ ⟨s3, na, nb, out, g, ac, bc, rfl, C, hz⟩
        dsimp only
        obtain ⟨M, a0, a1, b0, b1⟩ := C
        obtain ⟨y, hy, ly, gy⟩ := at_b (nb - 1) (by omega)
        refine ite_ok (fun _ => ?_) (fun _ => ?_)
        all_goals
          refine wpS_bind (wpS_modify ?_)
          refine wpS_bind (elem_ok hy ?_)
          refine wpS_bind (gal_r L gy (fun i hi => by obtain ⟨x, h1, _, h2⟩ := at_a (0 + i) (by omega); exact ⟨x, h1, h2⟩) (sg sa na a1) (by omega) s3.kind fun m hm k1 k2 => ?_)
          dsimp only
          have up : ∀ x ∈ (a.toList.take na).drop m, Le O key y x := fun x hx => by
            obtain ⟨j, h1, h2, h3⟩ := mid_at hx
            exact le_of_lt (k2 j x h1 h2 (by rw [Nat.zero_add]; simpa using h3))
          have dn : ∀ x ∈ a.toList.take m, Le O key x y := fun x hx => by
            obtain ⟨j, h1, h2⟩ := tk_at hx
            exact k1 j x h1 (by rw [Nat.zero_add]; simpa using h2)
          have M1 := M.app sa hm a1 b1 fun x hx z hz => by
            obtain ⟨j, h1, h2⟩ := tk_at hz
            exact (le_at sb h2 ly (by omega)).trans (up x hx)
          have M2 := (Mh.push M1.swap sb (by omega) b1 (by omega) ly dn).swap
          refine ite_ok (fun hk0 => ite_ok (fun f1 => wpS_pure ⟨⟨s3.kind, s3.arr, s3.pend, s3.fail⟩, .inl ⟨_, _, _, _, _, _, _, rfl, M1.finA sa sb (by omega) b1 (.inl f1)⟩⟩) (fun f1 => ?_)) (fun hk0 => ?_)
          have m0 : 0 < m := by
            have := ne_of_beq f1
            omega
          rotate_left
          obtain rfl : m = na := by omega
          have ez : a.extract m m = #[] := by
            apply Array.ext'
            rw [ext_mid, List.drop_of_length_le (by rw [List.length_take]; omega)]
          rw [ez, Array.reverse_empty, Array.append_empty] at M2
          have m0 : 0 < m := a0
          all_goals
            refine wpS_bind (elem_ok hy ?_)
            refine ite_ok (fun f3 => wpS_pure ⟨⟨s3.kind, s3.arr, s3.pend, s3.fail⟩, .inl ⟨_, _, _, _, _, _, _, rfl, M2.finB sa sb (by omega) (by omega) (low (beq_iff_eq.mp f3))⟩⟩) (fun f3 => ?_)
            have f3' := ne_of_beq f3
            obtain ⟨x, hx, lx, gx⟩ := at_a (m - 1) (by omega)
            refine wpS_bind (elem_ok hx ?_)
            refine wpS_bind (gal_l L gx (fun i hi => by obtain ⟨x, h1, _, h2⟩ := at_b (0 + i) (by omega); exact ⟨x, h1, h2⟩) (sg sb (nb - 1) (by omega)) (by omega) s3.kind fun m' hm' k1' k2' => ?_)
            dsimp only
            have up' : ∀ z ∈ (b.toList.take (nb - 1)).drop m', Le O key x z := fun z hz => by
              obtain ⟨j, h1, h2, h3⟩ := mid_at hz
              exact k2' j z h1 h2 (by rw [Nat.zero_add]; simpa using h3)
            have dn' : ∀ z ∈ b.toList.take m', Le O key z x := fun z hz => by
              obtain ⟨j, h1, h2⟩ := tk_at hz
              exact le_of_lt (k1' j z h1 (by rw [Nat.zero_add]; simpa using h2))
            have M3 := (Mh.app M2.swap sb hm' (by omega) (by omega) fun z hz u hu => by
              obtain ⟨j, h1, h2⟩ := tk_at hu
              exact (le_at sa h2 lx (by omega)).trans (up' z hz)).swap
            have M4 := M3.push sa m0 (by omega) (by omega) lx dn'
            refine ite_ok (fun h1 => ite_ok (fun f4 => wpS_pure ⟨⟨s3.kind, s3.arr, s3.pend, s3.fail⟩, .inl ⟨_, _, _, _, _, _, _, rfl, M3.finB sa sb (by omega) (by omega) (low (beq_iff_eq.mp f4))⟩⟩) (fun f4 => ite_ok (fun f6 => wpS_pure ⟨⟨s3.kind, s3.arr, s3.pend, s3.fail⟩, .inl ⟨_, _, _, _, _, _, _, rfl, M3.finA sa sb (by omega) (by omega) (.inr f6)⟩⟩) (fun f6 => ?_))) (fun h1 => ?_)
            have lb2 : 1 < m' := by
              have := ne_of_beq f4
              have := ne_of_beq f6
              omega
            rotate_left
            obtain rfl : m' = nb - 1 := by omega
            have ez' : b.extract (nb - 1) (nb - 1) = #[] := by
              apply Array.ext'
              rw [ext_mid, List.drop_of_length_le (by rw [List.length_take]; omega)]
            rw [ez', Array.reverse_empty, Array.append_empty] at M4
            have lb2 : 1 < nb - 1 := by omega
            all_goals
              refine wpS_bind (elem_ok hx ?_)
              refine ite_ok (fun f5 => wpS_pure ⟨⟨s3.kind, s3.arr, s3.pend, s3.fail⟩, .inl ⟨_, _, _, _, _, _, _, rfl, M4.finA sa sb (by omega) (by omega) (.inl f5)⟩⟩) (fun f5 => ?_)
              have f5' := ne_of_beq f5
              refine ite_ok (fun _ => wpS_pure ⟨⟨s3.kind, s3.arr, s3.pend, s3.fail⟩, .inr ⟨_, _, _, _, _, _, rfl, ⟨M4, by omega, by omega, lb2, by omega⟩, by omega⟩⟩) (fun _ => wpS_pure ⟨⟨s3.kind, s3.arr, s3.pend, s3.fail⟩, _, _, _, _, _, _, rfl, ⟨M4, by omega, by omega, lb2, by omega⟩, by omega⟩)
end
end Ts

/-! ### the sort of 64 items and more: two pending runs into one -/
namespace Ts
open PySem PyProof.Rows
/-- the items at the places from lo to lo + n -/
def sg (a : Array Keyed) (lo n : Nat) : List Keyed := (a.toList.drop lo).take n
theorem sg_add (a : Array Keyed) (lo m n : Nat) : sg a lo (m + n) = sg a lo m ++ sg a (lo + m) n := by
  unfold sg
  rw [take_add, drop_add']
theorem sg_all (a : Array Keyed) (lo n : Nat) : a.toList = a.toList.take lo ++ sg a lo n ++ a.toList.drop (lo + n) := by
  unfold sg
  rw [drop_add', List.append_assoc, List.take_append_drop, List.take_append_drop]
theorem sg_len {a : Array Keyed} {lo n : Nat} (h : lo + n ≤ a.size) : (sg a lo n).length = n := by
  unfold sg
  rw [List.length_take, List.length_drop, Array.length_toList]
  omega
theorem sg_at {a : Array Keyed} {lo n : Nat} {x : Keyed} (h : x ∈ sg a lo n) : ∃ j, j < n ∧ a[lo + j]? = some x := by
  obtain ⟨j, hj, ej⟩ := take_at h
  exact ⟨j, hj, by simpa using ej⟩
theorem sg_get {a : Array Keyed} {lo n i : Nat} (h : i < n) : (sg a lo n)[i]? = a[lo + i]? := by
  unfold sg
  rw [List.getElem?_take, if_pos h, List.getElem?_drop]
  simp
theorem sg_congr {a b : Array Keyed} {lo n : Nat} (h : ∀ i, i < n → a[lo + i]? = b[lo + i]?) : sg a lo n = sg b lo n := by
  apply List.ext_getElem?
  intro i
  by_cases hi : i < n
  · rw [sg_get hi, sg_get hi, h i hi]
  · unfold sg
    rw [List.getElem?_take, List.getElem?_take, if_neg hi, if_neg hi]
theorem ext_sg (a : Array Keyed) (lo n : Nat) : (a.extract lo (lo + n)).toList = sg a lo n := ext_take a lo n
/-- items written over the places from b on -/
theorem wr_at : ∀ (l : List Keyed) (m b : Nat) (a : Array Keyed) (i : Nat), b + m + l.length ≤ a.size →
    ((l.zipIdx m).foldl (fun a (x : Keyed × Nat) => a.setIfInBounds (b + x.2) x.1) a)[i]? = if b + m ≤ i ∧ i < b + m + l.length then l[i - (b + m)]? else a[i]?
  | [], m, b, a, i, h => by
    rw [if_neg (by simp)]
    rfl
  | x :: l, m, b, a, i, h => by
    rw [List.length_cons] at h
    rw [List.zipIdx_cons, List.foldl_cons, wr_at l (m + 1) b _ i (by rw [Array.size_setIfInBounds]; omega)]
    by_cases c : b + (m + 1) ≤ i ∧ i < b + (m + 1) + l.length
    · rw [if_pos c, if_pos (by rw [List.length_cons]; omega), show i - (b + m) = (i - (b + (m + 1))) + 1 by omega, List.getElem?_cons_succ]
    · rw [if_neg c, Array.getElem?_setIfInBounds]
      by_cases e : b + m = i
      · rw [if_pos e, if_pos (by omega), if_pos (by rw [List.length_cons]; omega), ← e, Nat.sub_self]
        rfl
      · rw [if_neg e, if_neg (by rw [List.length_cons]; omega)]
/-- no place but those from lo to lo + n has changed -/
def Frm (a a' : Array Keyed) (lo n : Nat) : Prop := ∀ i, ¬ (lo ≤ i ∧ i < lo + n) → a'[i]? = a[i]?
theorem Frm.refl (a : Array Keyed) (lo n : Nat) : Frm a a lo n := fun _ _ => rfl
theorem Frm.trans {a b c : Array Keyed} {lo n : Nat} (h : Frm a b lo n) (k : Frm b c lo n) : Frm a c lo n := fun i hi => (k i hi).trans (h i hi)
theorem perm_of_frm {a a' : Array Keyed} {lo n : Nat} (hs : a'.size = a.size) (h : Frm a a' lo n) (hp : (sg a' lo n).Perm (sg a lo n)) : a'.toList.Perm a.toList := by
  have e1 : a'.toList.take lo = a.toList.take lo := by
    apply List.ext_getElem?
    intro i
    rw [List.getElem?_take, List.getElem?_take]
    by_cases hi : i < lo
    · rw [if_pos hi, if_pos hi]
      have := h i (by omega)
      simpa using this
    · rw [if_neg hi, if_neg hi]
  have e2 : a'.toList.drop (lo + n) = a.toList.drop (lo + n) := by
    apply List.ext_getElem?
    intro i
    rw [List.getElem?_drop, List.getElem?_drop]
    have := h (lo + n + i) (by omega)
    simpa using this
  rw [sg_all a' lo n, sg_all a lo n, e1, e2]
  exact (hp.append_left _).append_right _
section
variable {O : KeyOrd} {key : Keyed → O.α}
theorem pw_app {l m : List Keyed} (hl : l.Pairwise (Le O key)) (hm : m.Pairwise (Le O key)) (h : ∀ x ∈ l, ∀ y ∈ m, Le O key x y) : (l ++ m).Pairwise (Le O key) := List.pairwise_append.mpr ⟨hl, hm, h⟩
theorem seg_at {a : Array Keyed} {lo n i j : Nat} {x y : Keyed} (h : (sg a lo n).Pairwise (Le O key)) (hij : i ≤ j) (hj : j < n) (ex : a[lo + i]? = some x) (ey : a[lo + j]? = some y) : Le O key x y :=
  le_at h ((sg_get (by omega)).trans ex) ((sg_get hj).trans ey) hij
end
section
variable {prog : Program} {w : World} {A : Around} {E : Value → Shared → Prop} {s : Shared} {κ : SortKind} {O : KeyOrd} {key : Keyed → O.α} {Good : Keyed → Prop}
/-- what every step of the sort keeps -/
structure Kp (κ : SortKind) (a₀ : Array Keyed) (st : SortSt) : Prop where
  kind : kindOf st = κ
  perm : (arrOf st).toList.Perm a₀.toList
  fail : failedOf st = none
theorem Kp.size {a₀ : Array Keyed} {st : SortSt} (K : Kp κ a₀ st) : (arrOf st).size = a₀.size := by
  have := K.perm.length_eq
  simpa using this
theorem Kp.good {a₀ : Array Keyed} {st : SortSt} (K : Kp κ a₀ st) (g : ∀ x ∈ a₀.toList, Good x) {i : Nat} (h : i < a₀.size) : ∃ x, (arrOf st)[i]? = some x ∧ Good x := by
  obtain ⟨x, h1, h2⟩ := arr_at (a := arrOf st) (i := i) (by rw [K.size]; exact h)
  exact ⟨x, h1, g x (K.perm.mem_iff.mp (List.mem_of_getElem? h2))⟩
theorem set_ok {x : SortSt} {Q : PUnit → SortSt → Prop} {st : SortSt} (h : Q ⟨⟩ x) : wpS (model prog w) A E s (set x : StateT SortSt Sem PUnit) Q st := by
  have : wpS (model prog w) A E s (modify (fun _ => x) : StateT SortSt Sem PUnit) Q st := wpS_modify h
  exact this
theorem mergeAt_ok {a₀ : Array Keyed} {st : SortSt} {i sa na nb p q : Nat} {Q : Bool → SortSt → Prop} (L : LtOk prog w A E s κ O key Good) (g : ∀ x ∈ a₀.toList, Good x) (K : Kp κ a₀ st)
    (h1 : (pendingOf st)[i]? = some (sa, na, p)) (h2 : (pendingOf st)[i + 1]? = some (sa + na, nb, q)) (pa : 0 < na) (pb : 0 < nb) (hs : sa + na + nb ≤ a₀.size)
    (sA : (sg (arrOf st) sa na).Pairwise (Le O key)) (sB : (sg (arrOf st) (sa + na) nb).Pairwise (Le O key))
    (h : ∀ st', Kp κ a₀ st' → pendingOf st' = ((pendingOf st).setIfInBounds i (sa, na + nb, p)).eraseIdxIfInBounds (i + 1) → (sg (arrOf st') sa (na + nb)).Pairwise (Le O key) → Frm (arrOf st) (arrOf st') sa (na + nb) → Q true st') :
    wpS (model prog w) A E s (mergeAt' i) Q st := by
  have gd : ∀ i, i < a₀.size → ∃ x, (arrOf st)[i]? = some x ∧ Good x := fun i hi => K.good g hi
  have sz := K.size
  unfold mergeAt'
  refine wpS_bind (wpS_get ?_)
  dsimp only
  rw [h1, h2]
  dsimp only
  refine wpS_bind (set_ok ?_)
  obtain ⟨y0, ey0, gy0⟩ := gd (sa + na) (by omega)
  refine wpS_bind (elem_ok ey0 ?_)
  refine wpS_bind (gal_r (key := key) L gy0 (fun i hi => gd _ (by omega)) (fun i j x z hij hj ex ez => seg_at sA hij hj ex ez) pa K.kind fun k hk rA rB => ?_)
  dsimp only
  have eA : sg (arrOf st) sa na = sg (arrOf st) sa k ++ sg (arrOf st) (sa + k) (na - k) := by rw [← sg_add]; congr 1; omega
  have leY : ∀ y ∈ sg (arrOf st) (sa + na) nb, Le O key y0 y := fun y hy => by
    obtain ⟨j, hj, ej⟩ := sg_at hy
    exact seg_at sB (Nat.zero_le j) hj ey0 ej
  have leA1 : ∀ x ∈ sg (arrOf st) sa k, Le O key x y0 := fun x hx => by
    obtain ⟨j, hj, ej⟩ := sg_at hx
    exact rA j x hj ej
  have ltA2 : ∀ x ∈ sg (arrOf st) (sa + k) (na - k), O.blt (key y0) (key x) = true := fun x hx => by
    obtain ⟨j, hj, ej⟩ := sg_at hx
    exact rB (k + j) x (by omega) (by omega) (by rw [← Nat.add_assoc]; exact ej)
  refine ite_ok (fun e => wpS_pure (h _ ⟨K.kind, K.perm, K.fail⟩ rfl ?_ (Frm.refl _ _ _))) (fun e => ?_)
  · show (sg (arrOf st) sa (na + nb)).Pairwise (Le O key)
    have ek : k = na := by have := beq_iff_eq.mp e; omega
    subst ek
    rw [sg_add]
    exact pw_app sA sB fun x hx y hy => (leA1 x hx).trans (leY y hy)
  have hk' : k < na := by have := ne_of_beq e; omega
  obtain ⟨x0, ex0, gx0⟩ := gd (sa + k + (na - k) - 1) (by omega)
  refine wpS_bind (elem_ok ex0 ?_)
  refine wpS_bind (gal_l (key := key) L gx0 (fun i hi => gd _ (by omega)) (fun i j x z hij hj ex ez => seg_at sB hij hj ex ez) (by omega) K.kind fun r hr qA qB => ?_)
  dsimp only
  have eB : sg (arrOf st) (sa + na) nb = sg (arrOf st) (sa + na) r ++ sg (arrOf st) (sa + na + r) (nb - r) := by rw [← sg_add]; congr 1; omega
  have eX : sa + k + (na - k) - 1 = sa + (na - 1) := by omega
  have leX : ∀ x ∈ sg (arrOf st) sa na, Le O key x x0 := fun x hx => by
    obtain ⟨j, hj, ej⟩ := sg_at hx
    exact seg_at sA (i := j) (j := na - 1) (by omega) (by omega) ej (eX ▸ ex0)
  have ltB1 : ∀ y ∈ sg (arrOf st) (sa + na) r, O.blt (key y) (key x0) = true := fun x hx => by
    obtain ⟨j, hj, ej⟩ := sg_at hx
    exact qA j x hj ej
  have leB2 : ∀ y ∈ sg (arrOf st) (sa + na + r) (nb - r), Le O key x0 y := fun x hx => by
    obtain ⟨j, hj, ej⟩ := sg_at hx
    exact qB (r + j) x (by omega) (by omega) (by rw [← Nat.add_assoc]; exact ej)
  refine ite_ok (fun e => wpS_pure (h _ ⟨K.kind, K.perm, K.fail⟩ rfl ?_ (Frm.refl _ _ _))) (fun e => ?_)
  · show (sg (arrOf st) sa (na + nb)).Pairwise (Le O key)
    have er : r = 0 := beq_iff_eq.mp e
    subst er
    rw [sg_add]
    exact pw_app sA sB fun x hx y hy => (leX x hx).trans (leB2 y hy)
  have hr0 : 0 < r := by have := ne_of_beq e; omega
  have eXs : ((arrOf st).extract (sa + k) (sa + na)).toList = sg (arrOf st) (sa + k) (na - k) := by rw [← ext_sg]; congr 2; omega
  have eYs : ((arrOf st).extract (sa + na) (sa + na + r)).toList = sg (arrOf st) (sa + na) r := ext_sg _ _ _
  have lX : (sg (arrOf st) (sa + k) (na - k)).length = na - k := sg_len (by omega)
  have lY : (sg (arrOf st) (sa + na) r).length = r := sg_len (by omega)
  have pA2 : (sg (arrOf st) (sa + k) (na - k)).Pairwise (Le O key) := by rw [eA] at sA; exact (List.pairwise_append.mp sA).2.1
  have pB1 : (sg (arrOf st) (sa + na) r).Pairwise (Le O key) := by rw [eB] at sB; exact (List.pairwise_append.mp sB).1
  have szX : ((arrOf st).extract (sa + k) (sa + na)).size = na - k := by rw [← Array.length_toList, eXs, lX]
  have szY : ((arrOf st).extract (sa + na) (sa + na + r)).size = r := by rw [← Array.length_toList, eYs, lY]
  have gX : ∀ x ∈ ((arrOf st).extract (sa + k) (sa + na)).toList, Good x := fun x hx => by
    rw [eXs] at hx
    obtain ⟨j, hj, ej⟩ := sg_at hx
    obtain ⟨z, e1, e2⟩ := gd (sa + k + j) (by omega)
    rw [e1] at ej; cases ej
    exact e2
  have gY : ∀ x ∈ ((arrOf st).extract (sa + na) (sa + na + r)).toList, Good x := fun x hx => by
    rw [eYs] at hx
    obtain ⟨j, hj, ej⟩ := sg_at hx
    obtain ⟨z, e1, e2⟩ := gd (sa + na + j) (by omega)
    rw [e1] at ej; cases ej
    exact e2
  have hf : ∀ x, ((arrOf st).extract (sa + k) (sa + na)).toList[0]? = some x → ∀ y, ((arrOf st).extract (sa + na) (sa + na + r)).toList[0]? = some y → Le O key y x := fun x ex y ey => by
    rw [eXs] at ex
    rw [eYs, sg_get hr0, Nat.add_zero, ey0] at ey
    cases ey
    exact le_of_lt (ltA2 x (List.mem_of_getElem? ex))
  have hl : ∀ y ∈ ((arrOf st).extract (sa + na) (sa + na + r)).toList, ∀ x, ((arrOf st).extract (sa + k) (sa + na)).toList[((arrOf st).extract (sa + k) (sa + na)).size - 1]? = some x → Le O key y x := fun y hy x ex => by
    rw [eYs] at hy
    rw [szX, eXs, sg_get (by omega), show sa + k + (na - k - 1) = sa + k + (na - k) - 1 by omega, ex0] at ex
    cases ex
    exact le_of_lt (ltB1 y hy)
  have fin : ∀ (m : Array Keyed) (st' : SortSt), Fi O key ((arrOf st).extract (sa + k) (sa + na)) ((arrOf st).extract (sa + na) (sa + na + r)) m →
      kindOf st' = κ → arrOf st' = arrOf st → pendingOf st' = ((pendingOf st).setIfInBounds i (sa, na + nb, p)).eraseIdxIfInBounds (i + 1) → failedOf st' = none →
      Q true (setArr st' (m.toList.zipIdx.foldl (fun a (x : Keyed × Nat) => a.setIfInBounds (sa + k + x.2) x.1) (arrOf st'))) := fun m st' F c1 c2 c3 c4 => by
    obtain ⟨mp, ms⟩ := F
    rw [eXs, eYs] at mp
    have ml : m.toList.length = na - k + r := by rw [mp.length_eq, List.length_append, lX, lY]
    rw [c2]
    generalize ea : m.toList.zipIdx.foldl (fun a (x : Keyed × Nat) => a.setIfInBounds (sa + k + x.2) x.1) (arrOf st) = a'
    have at' : ∀ i, a'[i]? = if sa + k ≤ i ∧ i < sa + k + (na - k + r) then m.toList[i - (sa + k)]? else (arrOf st)[i]? := fun i => by
      have := wr_at m.toList 0 (sa + k) (arrOf st) i (by rw [ml]; omega)
      rw [ea, ml] at this
      exact this
    have sz' : a'.size = (arrOf st).size := by
      rw [← ea]
      have : ∀ (l : List (Keyed × Nat)) (a : Array Keyed), (l.foldl (fun a (x : Keyed × Nat) => a.setIfInBounds (sa + k + x.2) x.1) a).size = a.size := by
        intro l
        induction l with
        | nil => intro a; rfl
        | cons x l ih => intro a; rw [List.foldl_cons, ih, Array.size_setIfInBounds]
      exact this _ _
    have fr : Frm (arrOf st) a' (sa + k) (na - k + r) := fun i hi => by rw [at' i, if_neg hi]
    have em : sg a' (sa + k) (na - k + r) = m.toList := by
      apply List.ext_getElem?
      intro i
      by_cases hi : i < na - k + r
      · rw [sg_get hi, at', if_pos (by omega)]
        congr 1; omega
      · rw [List.getElem?_eq_none (by rw [sg_len (by omega)]; omega), List.getElem?_eq_none (by omega)]
    have fr' : Frm (arrOf st) a' sa (na + nb) := fun i hi => fr i (by omega)
    refine h _ ⟨c1, ?_, c4⟩ c3 ?_ fr'
    · show a'.toList.Perm _
      refine (perm_of_frm sz' fr ?_).trans K.perm
      rw [em, sg_add, show sa + k + (na - k) = sa + na by omega]
      exact mp
    · show (sg a' sa (na + nb)).Pairwise _
      have e1 : sg a' sa k = sg (arrOf st) sa k := sg_congr fun j hj => fr _ (by omega)
      have e2 : sg a' (sa + na + r) (nb - r) = sg (arrOf st) (sa + na + r) (nb - r) := sg_congr fun j hj => fr _ (by omega)
      rw [show na + nb = k + (na - k + r) + (nb - r) by omega, sg_add, sg_add, em, e1, show sa + (k + (na - k + r)) = sa + na + r by omega, e2]
      have mm : ∀ x ∈ m.toList, x ∈ sg (arrOf st) (sa + k) (na - k) ∨ x ∈ sg (arrOf st) (sa + na) r := fun x hx => List.mem_append.mp (mp.mem_iff.mp hx)
      have pA1 : (sg (arrOf st) sa k).Pairwise (Le O key) := by rw [eA] at sA; exact (List.pairwise_append.mp sA).1
      have pB2 : (sg (arrOf st) (sa + na + r) (nb - r)).Pairwise (Le O key) := by rw [eB] at sB; exact (List.pairwise_append.mp sB).2.1
      have x0m : ∀ x ∈ m.toList, Le O key x x0 := fun x hx => by
        rcases mm x hx with q | q
        · exact leX x (by rw [eA]; exact List.mem_append_right _ q)
        · exact le_of_lt (ltB1 x q)
      have my0 : ∀ x ∈ m.toList, Le O key y0 x := fun x hx => by
        rcases mm x hx with q | q
        · exact le_of_lt (ltA2 x q)
        · exact leY x (by rw [eB]; exact List.mem_append_left _ q)
      refine pw_app (pw_app pA1 ms fun x hx y hy => (leA1 x hx).trans (my0 y hy)) pB2 fun x hx y hy => ?_
      rcases List.mem_append.mp hx with q | q
      · exact (leX x (by rw [eA]; exact List.mem_append_left _ q)).trans (leB2 y hy)
      · exact (x0m x q).trans (leB2 y hy)
  refine ite_ok (fun _ => wpS_bind (mergeLo_ok L gX gY (by rw [eXs]; exact pA2) (by rw [eYs]; exact pB1) (by rw [szX]; omega) (by rw [szY]; exact hr0) hf hl K.kind fun m st' F S => ?_)) (fun _ => wpS_bind (mergeHi_ok L gX gY (by rw [eXs]; exact pA2) (by rw [eYs]; exact pB1) (by rw [szX]; omega) (by rw [szY]; exact hr0) hf hl K.kind fun m st' F S => ?_))
  all_goals
    refine wpS_bind (wpS_modify (wpS_bind (wpS_get (wpS_pure ?_))))
    have this := fin m st' F S.kind S.arr S.pend (S.fail.trans K.fail)
    have ef : failedOf st' = none := S.fail.trans K.fail
    show Q (failedOf st').isNone _
    rw [ef]
    exact this
end
end Ts

/-! ### the sort of 64 items and more: a run counted, a run made longer -/
namespace Ts
open PySem PyProof.Rows
section
variable {O : KeyOrd} {key : Keyed → O.α}
/-- the key at a place -/
def kk (key : Keyed → O.α) (a : Array Keyed) (lo i : Nat) : O.α := key (a[lo + i]?.getD (Value.none, Value.none))
def Inc (O : KeyOrd) (key : Keyed → O.α) (a : Array Keyed) (lo n : Nat) : Prop := ∀ i j, i ≤ j → j < n → O.kle (kk key a lo i) (kk key a lo j)
def Dec (O : KeyOrd) (key : Keyed → O.α) (a : Array Keyed) (lo n : Nat) : Prop := ∀ i j, i ≤ j → j < n → O.kle (kk key a lo j) (kk key a lo i)
theorem kk_congr {a b : Array Keyed} {lo i j : Nat} (h : a[lo + i]? = b[lo + j]?) : kk key a lo i = kk key b lo j := by
  unfold kk
  rw [h]
theorem inc_one (a : Array Keyed) (lo : Nat) {n : Nat} (h : n ≤ 1) : Inc O key a lo n := fun i j hij hj => (show i = j by omega) ▸ O.irrefl _
theorem inc_snoc {a : Array Keyed} {lo n : Nat} (h : Inc O key a lo n) (hn : 1 ≤ n) (e : O.blt (kk key a lo n) (kk key a lo (n - 1)) = false) : Inc O key a lo (n + 1) := fun i j hij hj => by
  rcases Nat.lt_or_ge j n with q | q
  · exact h i j hij q
  obtain rfl : j = n := by omega
  rcases Nat.lt_or_ge i j with z | z
  · exact KeyOrd.kle_trans (h i (j - 1) (by omega) (by omega)) e
  · obtain rfl : i = j := by omega
    exact O.irrefl _
theorem dec_snoc {a : Array Keyed} {lo n : Nat} (h : Dec O key a lo n) (hn : 1 ≤ n) (e : O.kle (kk key a lo n) (kk key a lo (n - 1))) : Dec O key a lo (n + 1) := fun i j hij hj => by
  rcases Nat.lt_or_ge j n with q | q
  · exact h i j hij q
  obtain rfl : j = n := by omega
  rcases Nat.lt_or_ge i j with z | z
  · exact KeyOrd.kle_trans e (h i (j - 1) (by omega) (by omega))
  · obtain rfl : i = j := by omega
    exact O.irrefl _
theorem dec_congr {a b : Array Keyed} {lo n : Nat} (h : Dec O key a lo n) (e : ∀ k, kk key b lo k = kk key a lo k) : Dec O key b lo n := fun i j hij hj => by
  rw [e, e]
  exact h i j hij hj
theorem inc_seg {a : Array Keyed} {lo n : Nat} (h : Inc O key a lo n) : (sg a lo n).Pairwise (Le O key) := by
  rw [List.pairwise_iff_getElem]
  intro i j hi hj hij
  have li : (sg a lo n).length ≤ n := by unfold sg; rw [List.length_take]; omega
  have hi' : i < n := by omega
  have hj' : j < n := by omega
  have ei : a[lo + i]? = some (sg a lo n)[i] := (sg_get hi').symm.trans (List.getElem?_eq_getElem hi)
  have ej : a[lo + j]? = some (sg a lo n)[j] := (sg_get hj').symm.trans (List.getElem?_eq_getElem hj)
  have := h i j (Nat.le_of_lt hij) hj'
  unfold kk at this
  rw [ei, ej] at this
  exact this
theorem kk_mir {a : Array Keyed} {lo x y : Nat} (h : lo + y ≤ a.size) (k : Nat) : kk key (mirror a (lo + x) (lo + y) ((lo + y - (lo + x)) / 2)) lo k = if x ≤ k ∧ k < y then kk key a lo (x + y - 1 - k) else kk key a lo k := by
  have e := getElem?_mirror_all (i := lo + x) h (lo + k)
  by_cases c : x ≤ k ∧ k < y
  · rw [if_pos (by omega)] at e
    rw [if_pos c]
    refine kk_congr (e.trans ?_)
    congr 1; omega
  · rw [if_neg (by omega)] at e
    rw [if_neg c]
    exact kk_congr e
theorem kk_mir_eq {a : Array Keyed} {lo x y : Nat} (h : lo + y ≤ a.size) (he : ∀ k, x ≤ k → k < y → kk key a lo k = kk key a lo (y - 1)) (k : Nat) : kk key (mirror a (lo + x) (lo + y) ((lo + y - (lo + x)) / 2)) lo k = kk key a lo k := by
  rw [kk_mir h]
  split
  · rw [he _ (by omega) (by omega), he k (by omega) (by omega)]
  · rfl
theorem kk_bub {a : Array Keyed} {lo k l : Nat} (h : lo + k < a.size) (hl : l ≤ k) (i : Nat) : kk key (bubble a (lo + k) (lo + k - (lo + l))) lo i = if i = l then kk key a lo k else if l < i ∧ i ≤ k then kk key a lo (i - 1) else kk key a lo i := by
  have e := getElem?_bubble h (lo + k - (lo + l)) (by omega) (lo + i)
  by_cases c : i = l
  · rw [if_pos (by omega)] at e
    rw [if_pos c]
    exact kk_congr e
  · rw [if_neg (by omega)] at e
    rw [if_neg c]
    by_cases c2 : l < i ∧ i ≤ k
    · rw [if_pos (by omega)] at e
      rw [if_pos c2]
      refine kk_congr (e.trans ?_)
      congr 1; omega
    · rw [if_neg (by omega)] at e
      rw [if_neg c2]
      exact kk_congr e
end
section
variable {prog : Program} {w : World} {A : Around} {E : Value → Shared → Prop} {s : Shared} {κ : SortKind} {O : KeyOrd} {key : Keyed → O.α} {Good : Keyed → Prop} {a₀ : Array Keyed}
structure Cr (κ : SortKind) (a₀ : Array Keyed) (st0 : SortSt) (lo nrem : Nat) (st : SortSt) : Prop where
  kp : Kp κ a₀ st
  pend : pendingOf st = pendingOf st0
  frm : Frm (arrOf st0) (arrOf st) lo nrem
theorem Cr.mir {st0 st : SortSt} {lo nrem x y : Nat} (C : Cr κ a₀ st0 lo nrem st) (h : y ≤ nrem) (hs : lo + nrem ≤ a₀.size) : Cr κ a₀ st0 lo nrem (setArr st (mirror (arrOf st) (lo + x) (lo + y) ((lo + y - (lo + x)) / 2))) :=
  ⟨⟨C.kp.kind, (Array.perm_iff_toList_perm.mp (mirror_perm _ _ _ _)).trans C.kp.perm, C.kp.fail⟩, C.pend, C.frm.trans fun i hi => by
    show (mirror (arrOf st) (lo + x) (lo + y) ((lo + y - (lo + x)) / 2))[i]? = _
    rw [getElem?_mirror_all (by rw [C.kp.size]; omega), if_neg (by omega)]⟩
theorem Cr.bub {st0 st : SortSt} {lo nrem k l : Nat} (C : Cr κ a₀ st0 lo nrem st) (hl : l ≤ k) (h : k < nrem) (hs : lo + nrem ≤ a₀.size) : Cr κ a₀ st0 lo nrem (setArr st (bubble (arrOf st) (lo + k) (lo + k - (lo + l)))) :=
  ⟨⟨C.kp.kind, (Array.perm_iff_toList_perm.mp (bubble_perm _ _ _)).trans C.kp.perm, C.kp.fail⟩, C.pend, C.frm.trans fun i hi => by
    show (bubble (arrOf st) (lo + k) (lo + k - (lo + l)))[i]? = _
    rw [getElem?_bubble (by rw [C.kp.size]; omega) _ (by omega), if_neg (by omega), if_neg (by omega)]⟩
theorem ltAt_ok {st : SortSt} {lo i j i' j' : Nat} {Q : Option Bool → SortSt → Prop} (L : LtOk prog w A E s κ O key Good) (g : ∀ x ∈ a₀.toList, Good x) (K : Kp κ a₀ st) (ei : i' = lo + i) (ej : j' = lo + j) (hi : lo + i < a₀.size) (hj : lo + j < a₀.size)
    (h : Q (some (O.blt (kk key (arrOf st) lo i) (kk key (arrOf st) lo j))) st) : wpS (model prog w) A E s (ltAt' i' j') Q st := by
  subst ei; subst ej
  obtain ⟨x, ex, gx⟩ := K.good g hi
  obtain ⟨y, ey, gy⟩ := K.good g hj
  unfold kk at h
  rw [ex, ey] at h
  rw [ltAt'_eq]
  refine wpS_bind (wpS_get ?_)
  refine wpS_bind (elem_ok ex ?_)
  refine wpS_bind (elem_ok ey ?_)
  exact L x y gx gy Q st K.kind h
theorem asc_ok {st : SortSt} {lo a nrem : Nat} {f : Nat → Option (Option Nat) × Nat → StateT SortSt Sem (ForInStep (Option (Option Nat) × Nat))} {Q : Option (Option Nat) × Nat → SortSt → Prop} (ha : 1 ≤ a) (han : a ≤ nrem)
    (hf : ∀ x n (R : ForInStep (Option (Option Nat) × Nat) → SortSt → Prop), 1 ≤ n → n < nrem → (O.blt (kk key (arrOf st) lo n) (kk key (arrOf st) lo (n - 1)) = true → R (.done (none, n)) st) → (O.blt (kk key (arrOf st) lo n) (kk key (arrOf st) lo (n - 1)) = false → R (.yield (none, n + 1)) st) → wpS (model prog w) A E s (f x (none, n)) R st)
    (hs : Inc O key (arrOf st) lo a) (h : ∀ n, a ≤ n → n ≤ nrem → Inc O key (arrOf st) lo n → (n = nrem ∨ O.klt (kk key (arrOf st) lo n) (kk key (arrOf st) lo (n - 1))) → Q (none, n) st) :
    wpS (model prog w) A E s (forIn [a:nrem] (none, a) f) Q st := by
  refine wpS_forRange (I := fun x c z => z = st ∧ c = (none, x) ∧ Inc O key (arrOf st) lo x) (fun x c z l1 l2 => ?_) (fun c z => ?_) ⟨rfl, rfl, hs⟩
  · rintro ⟨rfl, rfl, up⟩
    exact hf x x _ (by omega) l2 (fun e => h x l1 (by omega) up (.inr e)) fun e => ⟨rfl, rfl, inc_snoc up (by omega) e⟩
  · rintro ⟨rfl, rfl, up⟩
    obtain e : max a nrem = nrem := by omega
    rw [e] at up ⊢
    exact h nrem han (Nat.le_refl nrem) up (.inl rfl)
theorem desc_ok {st0 st : SortSt} {lo a nrem : Nat} {f : Nat → Option (Option Nat) × Nat × Nat → StateT SortSt Sem (ForInStep (Option (Option Nat) × Nat × Nat))} {Q : Option (Option Nat) × Nat × Nat → SortSt → Prop} (hz : lo + nrem ≤ a₀.size) (ha : 1 ≤ a) (han : a ≤ nrem)
    (C : Cr κ a₀ st0 lo nrem st)
    (hf : ∀ x n neq st' (R : ForInStep (Option (Option Nat) × Nat × Nat) → SortSt → Prop), Cr κ a₀ st0 lo nrem st' → 1 ≤ n → n < nrem → neq + 1 ≤ n →
      (O.blt (kk key (arrOf st') lo n) (kk key (arrOf st') lo (n - 1)) = true → neq > 0 → R (.yield (none, n + 1, 0)) (setArr st' (mirror (arrOf st') (lo + (n - (neq + 1))) (lo + n) ((lo + n - (lo + (n - (neq + 1)))) / 2)))) →
      (O.blt (kk key (arrOf st') lo n) (kk key (arrOf st') lo (n - 1)) = true → ¬ neq > 0 → R (.yield (none, n + 1, 0)) st') →
      (O.blt (kk key (arrOf st') lo n) (kk key (arrOf st') lo (n - 1)) = false → O.blt (kk key (arrOf st') lo (n - 1)) (kk key (arrOf st') lo n) = true → R (.done (none, n, neq)) st') →
      (O.blt (kk key (arrOf st') lo n) (kk key (arrOf st') lo (n - 1)) = false → O.blt (kk key (arrOf st') lo (n - 1)) (kk key (arrOf st') lo n) = false → R (.yield (none, n + 1, neq + 1)) st') →
      wpS (model prog w) A E s (f x (none, n, neq)) R st')
    (hs : Dec O key (arrOf st) lo a)
    (h : ∀ m neq st', Cr κ a₀ st0 lo nrem st' → a ≤ m → m ≤ nrem → Dec O key (arrOf st') lo m → neq + 1 ≤ m → (∀ i, m - (neq + 1) ≤ i → i < m → kk key (arrOf st') lo i = kk key (arrOf st') lo (m - 1)) → Q (none, m, neq) st') :
    wpS (model prog w) A E s (forIn [a:nrem] (none, a, 0) f) Q st := by
  refine wpS_forRange (I := fun x c z => ∃ m, c = (none, x, m) ∧ Cr κ a₀ st0 lo nrem z ∧ Dec O key (arrOf z) lo x ∧ m + 1 ≤ x ∧ ∀ i, x - (m + 1) ≤ i → i < x → kk key (arrOf z) lo i = kk key (arrOf z) lo (x - 1))
    (fun x c z l1 l2 => ?_) (fun c z => ?_) ⟨0, rfl, C, hs, ha, fun i _ _ => by congr 1; omega⟩
  · rintro ⟨m, rfl, C', dn, lm, sm⟩
    have fits : lo + x ≤ (arrOf z).size := by rw [C'.kp.size]; omega
    have last : ∀ (b : Array Keyed) i, x + 1 - (0 + 1) ≤ i → i < x + 1 → kk key b lo i = kk key b lo (x + 1 - 1) := fun b i _ _ => by congr 1; omega
    refine hf x x m z _ C' (by omega) l2 lm (fun e q => ⟨0, rfl, C'.mir (by omega) hz, ?_, by omega, last _⟩) (fun e q => ⟨0, rfl, C', dec_snoc dn (by omega) (KeyOrd.kle_of_klt e), by omega, last _⟩) (fun e q => h x m z C' l1 (by omega) dn lm sm) (fun e q => ?_)
    · exact dec_congr (dec_snoc dn (by omega) (KeyOrd.kle_of_klt e)) (kk_mir_eq fits sm)
    · have same : kk key (arrOf z) lo x = kk key (arrOf z) lo (x - 1) := KeyOrd.kle_antisymm q e
      refine ⟨m + 1, rfl, C', dec_snoc dn (by omega) q, by omega, fun i i1 i2 => ?_⟩
      rw [Nat.add_sub_cancel]
      rcases Nat.lt_or_ge i x with y | y
      · exact (sm i (by omega) y).trans same.symm
      · obtain rfl : i = x := by omega
        rfl
  · rintro ⟨m, rfl, C', dn, lm, sm⟩
    obtain e : max a nrem = nrem := by omega
    rw [e] at dn lm sm ⊢
    exact h nrem m z C' han (Nat.le_refl nrem) dn lm sm
theorem countRun_ok {st : SortSt} {lo nrem : Nat} {Q : Option Nat → SortSt → Prop} (L : LtOk prog w A E s κ O key Good) (g : ∀ x ∈ a₀.toList, Good x) (K : Kp κ a₀ st) (h1 : 1 ≤ nrem) (hz : lo + nrem ≤ a₀.size)
    (h : ∀ m st', Cr κ a₀ st lo nrem st' → 1 ≤ m → m ≤ nrem → Inc O key (arrOf st') lo m → Q (some m) st') : wpS (model prog w) A E s (countRun' lo nrem) Q st := by
  have C0 : Cr κ a₀ st lo nrem st := ⟨K, rfl, Frm.refl _ _ _⟩
  have stp : ∀ st' n (R : Option Bool → SortSt → Prop), Kp κ a₀ st' → 1 ≤ n → n < nrem → (∀ b, O.blt (kk key (arrOf st') lo n) (kk key (arrOf st') lo (n - 1)) = b → R (some b) st') → wpS (model prog w) A E s (ltAt' (lo + n) (lo + n - 1)) R st' := fun st' n R K' a b hR =>
    ltAt_ok (key := key) L g K' rfl (show lo + n - 1 = lo + (n - 1) by omega) (by omega) (by omega) (hR _ rfl)
  unfold countRun'
  refine wpS_bind (asc_ok (key := key) (lo := lo) (Nat.le_refl 1) h1 (fun x n R a b r1 r2 => wpS_bind (stp st n _ K a b fun c e => ?_)) (inc_one _ _ (Nat.le_refl 1)) fun n n1 n2 hs hor => ?_)
  · cases c with
    | true => exact wpS_pure (r1 e)
    | false => exact wpS_pure (r2 e)
  dsimp only
  refine ite_ok (fun e => wpS_pure (h n st C0 n1 n2 hs)) fun e => ?_
  have hlt : O.klt (kk key (arrOf st) lo n) (kk key (arrOf st) lo (n - 1)) := hor.resolve_left (ne_of_beq e)
  have hnn : n < nrem := by have := ne_of_beq e; omega
  refine ite_ok (fun hgt => ?_) (fun hgt => ?_)
  · refine wpS_bind (ltAt_ok (key := key) L g K (show lo = lo + 0 from rfl) (show lo + n - 1 = lo + (n - 1) by omega) (by omega) (by omega) ?_)
    dsimp only
    refine ite_ok (fun _ => wpS_pure (h n st C0 n1 n2 hs)) fun hrose => ?_
    have hsz : lo + n ≤ (arrOf st).size := by rw [K.size]; omega
    have hall : ∀ k, 0 ≤ k → k < n → kk key (arrOf st) lo k = kk key (arrOf st) lo (n - 1) := by
      intro k _ hk
      have a1 := hs 0 k (by omega) hk
      have a2 := hs k (n - 1) (by omega) (by omega)
      have a3 : O.kle (kk key (arrOf st) lo (n - 1)) (kk key (arrOf st) lo 0) := by
        have z : O.blt (kk key (arrOf st) lo 0) (kk key (arrOf st) lo (n - 1)) = false := by simpa using hrose
        exact z
      exact KeyOrd.kle_antisymm a2 (KeyOrd.kle_trans a3 a1)
    refine wpS_bind (wpS_reverse ?_)
    have C1 := C0.mir (x := 0) (y := n) n2 hz
    have flat : Dec O key (arrOf st) lo n := fun i j hij hj => by
      rw [hall i (Nat.zero_le i) (by omega), hall j (Nat.zero_le j) hj]
      exact O.irrefl _
    have D1 : Dec O key (arrOf (setArr st (mirror (arrOf st) (lo + 0) (lo + n) ((lo + n - (lo + 0)) / 2)))) lo (n + 1) := dec_congr (dec_snoc flat n1 (KeyOrd.kle_of_klt hlt)) (kk_mir_eq hsz hall)
    change wpS (model prog w) A E s _ Q (setArr st (mirror (arrOf st) (lo + 0) (lo + n) ((lo + n - (lo + 0)) / 2)))
    revert C1 D1
    generalize setArr st (mirror (arrOf st) (lo + 0) (lo + n) ((lo + n - (lo + 0)) / 2)) = st1
    intro C1 D1
    refine wpS_bind (wpS_lift (wpAny_rule ⟨rfl, ?_⟩))
    refine wpS_bind (desc_ok (key := key) hz (by omega) (by omega) C1 (fun x n neq st' R C' a b c r1 r2 r3 r4 => wpS_bind (stp st' n _ C'.kp a b fun c1 e1 => ?_)) D1 fun m neq st2 C2 m1 m2 D2 q1 q2 => ?_)
    · cases c1 with
      | true =>
        dsimp only
        rw [if_pos rfl]
        refine ite_ok (fun hq => wpS_bind (wpS_reverse (wpS_pure ?_))) fun hq => wpS_pure (r2 e1 hq)
        rw [show lo + n - (neq + 1) = lo + (n - (neq + 1)) by omega]
        exact r1 e1 hq
      | false =>
        dsimp only
        rw [if_neg Bool.false_ne_true]
        refine wpS_bind (ltAt_ok (key := key) L g C'.kp (show lo + n - 1 = lo + (n - 1) by omega) rfl (by omega) (by omega) ?_)
        dsimp only
        exact ite_ok (fun hq => wpS_pure (r3 e1 hq)) fun hq => wpS_pure (r4 e1 (by simpa using hq))
    · dsimp only
      have hsz2 : lo + m ≤ (arrOf st2).size := by rw [C2.kp.size]; omega
      have tl : ∀ st3, Cr κ a₀ st lo nrem st3 → Dec O key (arrOf st3) lo m → Inc O key (arrOf (setArr st3 (mirror (arrOf st3) (lo + 0) (lo + m) ((lo + m - (lo + 0)) / 2)))) lo m := fun st3 C3 D3 i j hij hj => by
        show O.kle (kk key (mirror (arrOf st3) _ _ _) lo i) (kk key (mirror (arrOf st3) _ _ _) lo j)
        have hsz3 : lo + m ≤ (arrOf st3).size := by rw [C3.kp.size]; omega
        rw [kk_mir hsz3, kk_mir hsz3, if_pos (by omega), if_pos (by omega)]
        exact D3 _ _ (by omega) (by omega)
      refine ite_ok (fun hq => wpS_bind (wpS_reverse ?_)) (fun hq => ?_)
      · have C3 := C2.mir (x := m - (neq + 1)) (y := m) m2 hz
        rw [show lo + m - (neq + 1) = lo + (m - (neq + 1)) by omega]
        have D3 : Dec O key (arrOf (setArr st2 (mirror (arrOf st2) (lo + (m - (neq + 1))) (lo + m) ((lo + m - (lo + (m - (neq + 1)))) / 2)))) lo m := dec_congr D2 (kk_mir_eq hsz2 q2)
        revert C3 D3
        generalize setArr st2 (mirror (arrOf st2) (lo + (m - (neq + 1))) (lo + m) ((lo + m - (lo + (m - (neq + 1)))) / 2)) = st3
        intro C3 D3
        refine wpS_bind (wpS_reverse ?_)
        have C4 := Cr.mir (x := 0) C3 m2 hz
        have D4 := tl st3 C3 D3
        refine wpS_bind (asc_ok (key := key) (lo := lo) (st := setArr st3 (mirror (arrOf st3) (lo + 0) (lo + m) ((lo + m - (lo + 0)) / 2))) (by omega) m2 (fun x n R a b r1 r2 => wpS_bind (stp _ n _ C4.kp a b fun c e => ?_)) D4 fun n n1 n2 hs hor => wpS_pure (h n _ C4 (by omega) n2 hs))
        cases c with
        | true => exact wpS_pure (r1 e)
        | false => exact wpS_pure (r2 e)
      · refine wpS_bind (wpS_reverse ?_)
        have C4 := Cr.mir (x := 0) C2 m2 hz
        have D4 := tl st2 C2 D2
        refine wpS_bind (asc_ok (key := key) (lo := lo) (st := setArr st2 (mirror (arrOf st2) (lo + 0) (lo + m) ((lo + m - (lo + 0)) / 2))) (by omega) m2 (fun x n R a b r1 r2 => wpS_bind (stp _ n _ C4.kp a b fun c e => ?_)) D4 fun n n1 n2 hs hor => wpS_pure (h n _ C4 (by omega) n2 hs))
        cases c with
        | true => exact wpS_pure (r1 e)
        | false => exact wpS_pure (r2 e)
  · have hn1' : n = 1 := by omega
    subst hn1'
    have C1 := C0
    have D1 : Dec O key (arrOf st) lo (1 + 1) := dec_snoc (fun i j hij hj => (show i = j by omega) ▸ O.irrefl _) (Nat.le_refl 1) (KeyOrd.kle_of_klt hlt)
    refine wpS_bind (wpS_lift (wpAny_rule ⟨rfl, ?_⟩))
    refine wpS_bind (desc_ok (key := key) hz (by omega) (by omega) C1 (fun x n neq st' R C' a b c r1 r2 r3 r4 => wpS_bind (stp st' n _ C'.kp a b fun c1 e1 => ?_)) D1 fun m neq st2 C2 m1 m2 D2 q1 q2 => ?_)
    · cases c1 with
      | true =>
        dsimp only
        rw [if_pos rfl]
        refine ite_ok (fun hq => wpS_bind (wpS_reverse (wpS_pure ?_))) fun hq => wpS_pure (r2 e1 hq)
        rw [show lo + n - (neq + 1) = lo + (n - (neq + 1)) by omega]
        exact r1 e1 hq
      | false =>
        dsimp only
        rw [if_neg Bool.false_ne_true]
        refine wpS_bind (ltAt_ok (key := key) L g C'.kp (show lo + n - 1 = lo + (n - 1) by omega) rfl (by omega) (by omega) ?_)
        dsimp only
        exact ite_ok (fun hq => wpS_pure (r3 e1 hq)) fun hq => wpS_pure (r4 e1 (by simpa using hq))
    · dsimp only
      have hsz2 : lo + m ≤ (arrOf st2).size := by rw [C2.kp.size]; omega
      have tl : ∀ st3, Cr κ a₀ st lo nrem st3 → Dec O key (arrOf st3) lo m → Inc O key (arrOf (setArr st3 (mirror (arrOf st3) (lo + 0) (lo + m) ((lo + m - (lo + 0)) / 2)))) lo m := fun st3 C3 D3 i j hij hj => by
        show O.kle (kk key (mirror (arrOf st3) _ _ _) lo i) (kk key (mirror (arrOf st3) _ _ _) lo j)
        have hsz3 : lo + m ≤ (arrOf st3).size := by rw [C3.kp.size]; omega
        rw [kk_mir hsz3, kk_mir hsz3, if_pos (by omega), if_pos (by omega)]
        exact D3 _ _ (by omega) (by omega)
      refine ite_ok (fun hq => wpS_bind (wpS_reverse ?_)) (fun hq => ?_)
      · have C3 := C2.mir (x := m - (neq + 1)) (y := m) m2 hz
        rw [show lo + m - (neq + 1) = lo + (m - (neq + 1)) by omega]
        have D3 : Dec O key (arrOf (setArr st2 (mirror (arrOf st2) (lo + (m - (neq + 1))) (lo + m) ((lo + m - (lo + (m - (neq + 1)))) / 2)))) lo m := dec_congr D2 (kk_mir_eq hsz2 q2)
        revert C3 D3
        generalize setArr st2 (mirror (arrOf st2) (lo + (m - (neq + 1))) (lo + m) ((lo + m - (lo + (m - (neq + 1)))) / 2)) = st3
        intro C3 D3
        refine wpS_bind (wpS_reverse ?_)
        have C4 := Cr.mir (x := 0) C3 m2 hz
        have D4 := tl st3 C3 D3
        refine wpS_bind (asc_ok (key := key) (lo := lo) (st := setArr st3 (mirror (arrOf st3) (lo + 0) (lo + m) ((lo + m - (lo + 0)) / 2))) (by omega) m2 (fun x n R a b r1 r2 => wpS_bind (stp _ n _ C4.kp a b fun c e => ?_)) D4 fun n n1 n2 hs hor => wpS_pure (h n _ C4 (by omega) n2 hs))
        cases c with
        | true => exact wpS_pure (r1 e)
        | false => exact wpS_pure (r2 e)
      · refine wpS_bind (wpS_reverse ?_)
        have C4 := Cr.mir (x := 0) C2 m2 hz
        have D4 := tl st2 C2 D2
        refine wpS_bind (asc_ok (key := key) (lo := lo) (st := setArr st2 (mirror (arrOf st2) (lo + 0) (lo + m) ((lo + m - (lo + 0)) / 2))) (by omega) m2 (fun x n R a b r1 r2 => wpS_bind (stp _ n _ C4.kp a b fun c e => ?_)) D4 fun n n1 n2 hs hor => wpS_pure (h n _ C4 (by omega) n2 hs))
        cases c with
        | true => exact wpS_pure (r1 e)
        | false => exact wpS_pure (r2 e)
theorem binarySort_ok {st : SortSt} {lo n ok : Nat} {Q : Bool → SortSt → Prop} (L : LtOk prog w A E s κ O key Good) (g : ∀ x ∈ a₀.toList, Good x) (K : Kp κ a₀ st) (hz : lo + n ≤ a₀.size) (hok : ok ≤ n) (hs : Inc O key (arrOf st) lo ok)
    (h : ∀ st', Cr κ a₀ st lo n st' → Inc O key (arrOf st') lo n → Q true st') : wpS (model prog w) A E s (binarySort' lo n ok) Q st := by
  unfold binarySort'
  refine wpS_bind (wpS_mono (wpS_forRange (I := fun x c z => c = (none, ()) ∧ Cr κ a₀ st lo n z ∧ Inc O key (arrOf z) lo (min x n)) (Q := fun c z => c = (none, ()) ∧ Cr κ a₀ st lo n z ∧ Inc O key (arrOf z) lo n) (fun k c z l1 l2 => ?_) (fun c z => ?_) ⟨rfl, ⟨K, rfl, Frm.refl _ _ _⟩, ?_⟩) fun c z => ?_)
  · rintro ⟨rfl, C, up⟩
    obtain ek : min k n = k := by omega
    rw [ek] at up
    obtain ⟨kf, kn⟩ : lo + k < a₀.size ∧ lo + k < (arrOf z).size := ⟨by omega, by rw [C.kp.size]; omega⟩
    refine wpS_bind (wpS_mono (wpS_forRange
      (I := fun x c y => y = z ∧ ∃ u v, c = (none, u, v) ∧ u ≤ v ∧ v ≤ k ∧ v - u + x ≤ k ∧ (∀ i, i < u → O.kle (kk key (arrOf z) lo i) (kk key (arrOf z) lo k)) ∧ ∀ i, v ≤ i → i < k → O.klt (kk key (arrOf z) lo k) (kk key (arrOf z) lo i))
      (Q := fun c y => y = z ∧ ∃ u v, c = (none, u, v) ∧ u ≤ k ∧ (∀ i, i < u → O.kle (kk key (arrOf z) lo i) (kk key (arrOf z) lo k)) ∧ ∀ i, u ≤ i → i < k → O.klt (kk key (arrOf z) lo k) (kk key (arrOf z) lo i))
      (fun x c y _ l3 => ?_) (fun c y => ?_) ⟨rfl, 0, k, rfl, Nat.zero_le k, Nat.le_refl k, by omega, fun _ q => absurd q (Nat.not_lt_zero _), fun _ q1 q2 => absurd q2 (by omega)⟩) fun c y => ?_)
    · rintro ⟨rfl, u, v, rfl, uv, vk, le, below, above⟩
      dsimp only
      refine ite_ok (fun q => ?_) (fun q => wpS_bind (ltAt_ok (key := key) L g C.kp rfl rfl kf (by omega) ?_))
      · obtain rfl : u = v := by omega
        exact wpS_pure ⟨rfl, u, u, rfl, vk, below, above⟩
      · dsimp only
        refine ite_ok (fun q2 => wpS_pure ⟨rfl, u, (u + v) / 2, rfl, by omega, by omega, by omega, below, fun i i1 i2 => KeyOrd.klt_of_klt_of_kle q2 (up _ i i1 i2)⟩) (fun q2 => wpS_pure ⟨rfl, (u + v) / 2 + 1, v, rfl, by omega, by omega, by omega, fun i i1 => ?_, above⟩)
        refine KeyOrd.kle_trans (up i ((u + v) / 2) (by omega) (by omega)) ?_
        exact KeyOrd.kle_of_not_klt q2
    · rintro ⟨rfl, u, v, rfl, uv, vk, le, below, above⟩
      obtain rfl : u = v := by omega
      exact ⟨rfl, u, u, rfl, vk, below, above⟩
    · rintro ⟨rfl, u, v, rfl, uk, below, above⟩
      refine wpS_bind (wpS_modify (wpS_pure ⟨rfl, C.bub uk l2 hz, ?_⟩))
      obtain e1 : min (k + 1) n = k + 1 := by omega
      rw [e1]
      intro i j hij hj
      show O.kle (kk key (bubble (arrOf y) (lo + k) (lo + k - (lo + u))) lo i) (kk key (bubble (arrOf y) (lo + k) (lo + k - (lo + u))) lo j)
      rw [kk_bub kn uk, kk_bub kn uk]
      rcases Nat.lt_trichotomy i u with iu | iu | iu
      · rw [if_neg (by omega), if_neg (by omega)]
        rcases Nat.lt_trichotomy j u with ju | ju | ju
        · rw [if_neg (by omega), if_neg (by omega)]
          exact up i j hij (by omega)
        · rw [if_pos ju]
          exact below i iu
        · rw [if_neg (by omega), if_pos (by omega)]
          exact up i (j - 1) (by omega) (by omega)
      · rw [if_pos iu]
        rcases Nat.lt_or_ge u j with ju | ju
        · rw [if_neg (by omega), if_pos (by omega)]
          exact KeyOrd.kle_of_klt (above (j - 1) (by omega) (by omega))
        · rw [if_pos (by omega)]
          exact O.irrefl _
      · rw [if_neg (by omega), if_pos (by omega), if_neg (by omega), if_pos (by omega)]
        exact up (i - 1) (j - 1) (by omega) (by omega)
  · rintro ⟨e, C, up⟩
    obtain e1 : min (max (max ok 1) n) n = n := by omega
    rw [e1] at up
    exact ⟨e, C, up⟩
  · rcases Nat.lt_or_ge ok 1 with q | q
    · exact inc_one _ _ (by omega)
    · obtain e1 : min (max ok 1) n = ok := by omega
      rw [e1]
      exact hs
  · rintro ⟨rfl, C, up⟩
    exact wpS_pure (h z C up)
end
end Ts

/-! ### the sort of 64 items and more: all runs -/
namespace Ts
open PySem PyProof.Rows
/-- start and length of each pending run -/
def rl (p : Array (Nat × Nat × Nat)) : List (Nat × Nat) := p.toList.map fun t => (t.1, t.2.1)
section
variable {O : KeyOrd} {key : Keyed → O.α}
/-- sorted runs, one next to the other, from lo to hi -/
def Rn (O : KeyOrd) (key : Keyed → O.α) (a : Array Keyed) : Nat → List (Nat × Nat) → Nat → Prop
  | lo, [], hi => lo = hi
  | lo, t :: l, hi => t.1 = lo ∧ 0 < t.2 ∧ (sg a lo t.2).Pairwise (Le O key) ∧ Rn O key a (lo + t.2) l hi
theorem Rn.le {a : Array Keyed} : ∀ {l : List (Nat × Nat)} {lo hi : Nat}, Rn O key a lo l hi → lo + l.length ≤ hi
  | [], _, _, h => Nat.le_of_eq h
  | _ :: l, _, _, ⟨_, h2, _, h4⟩ => by
    have := Rn.le h4
    rw [List.length_cons]
    omega
theorem Rn.keep {a b : Array Keyed} : ∀ {l : List (Nat × Nat)} {lo hi : Nat}, Rn O key a lo l hi → (∀ i, lo ≤ i → i < hi → b[i]? = a[i]?) → Rn O key b lo l hi
  | [], _, _, h, _ => h
  | t :: l, lo, hi, ⟨h1, h2, h3, h4⟩, e => by
    have := Rn.le h4
    refine ⟨h1, h2, ?_, Rn.keep h4 fun i i1 i2 => e i (by omega) i2⟩
    rw [sg_congr (b := a) fun i hi => e _ (by omega) (by omega)]
    exact h3
theorem Rn.app {a : Array Keyed} : ∀ {l m : List (Nat × Nat)} {lo mid hi : Nat}, Rn O key a lo l mid → Rn O key a mid m hi → Rn O key a lo (l ++ m) hi
  | [], _, _, _, _, h, k => by cases h; exact k
  | _ :: l, _, _, _, _, ⟨h1, h2, h3, h4⟩, k => ⟨h1, h2, h3, Rn.app h4 k⟩
theorem Rn.split {a : Array Keyed} : ∀ {l m : List (Nat × Nat)} {lo hi : Nat}, Rn O key a lo (l ++ m) hi → ∃ mid, Rn O key a lo l mid ∧ Rn O key a mid m hi
  | [], _, lo, _, h => ⟨lo, rfl, h⟩
  | _ :: l, _, _, _, ⟨h1, h2, h3, h4⟩ => by
    obtain ⟨mid, q1, q2⟩ := Rn.split h4
    exact ⟨mid, ⟨h1, h2, h3, q1⟩, q2⟩
theorem Rn.push {a b : Array Keyed} {l : List (Nat × Nat)} {lo hi n : Nat} (h : Rn O key a lo l hi) (e : ∀ i, lo ≤ i → i < hi → b[i]? = a[i]?) (hn : 0 < n) (hs : (sg b hi n).Pairwise (Le O key)) : Rn O key b lo (l ++ [(hi, n)]) (hi + n) :=
  Rn.app (h.keep e) ⟨rfl, hn, hs, rfl⟩
theorem rl_push (p : Array (Nat × Nat × Nat)) (t : Nat × Nat × Nat) : rl (p.push t) = rl p ++ [(t.1, t.2.1)] := by
  unfold rl
  rw [Array.toList_push, List.map_append]
  rfl
theorem rl_len (p : Array (Nat × Nat × Nat)) : (rl p).length = p.size := by
  unfold rl
  rw [List.length_map, Array.length_toList]
theorem rl_mod (p : Array (Nat × Nat × Nat)) (i : Nat) (f : Nat × Nat × Nat → Nat × Nat × Nat) (hf : ∀ t, ((f t).1, (f t).2.1) = (t.1, t.2.1)) : rl (p.modify i f) = rl p := by
  unfold rl
  apply List.ext_getElem?
  intro j
  simp only [List.getElem?_map, Array.getElem?_toList, Array.getElem?_modify]
  split
  · cases p[j]? with
    | none => rfl
    | some t => simp only [Option.map_some]; rw [hf t]
  · rfl
/-- the pending runs parted at two neighbours -/
theorem two_at {p : Array (Nat × Nat × Nat)} {i : Nat} (h : i + 1 < p.size) : ∃ l t u m, p.toList = l ++ t :: u :: m ∧ l.length = i ∧ p[i]? = some t ∧ p[i + 1]? = some u := by
  refine ⟨p.toList.take i, p[i], p[i + 1], p.toList.drop (i + 2), ?_, by rw [List.length_take, Array.length_toList]; omega, by simp, by simp⟩
  have e1 : p.toList.drop i = p[i] :: p.toList.drop (i + 1) := by rw [List.drop_eq_getElem_cons (by simpa using (by omega : i < p.size))]; rfl
  have e2 : p.toList.drop (i + 1) = p[i + 1] :: p.toList.drop (i + 2) := by rw [List.drop_eq_getElem_cons (by simpa using h)]; rfl
  rw [← e2, ← e1, List.take_append_drop]
theorem rl_two {p : Array (Nat × Nat × Nat)} {i : Nat} {l m : List (Nat × Nat × Nat)} {t u v : Nat × Nat × Nat} (e : p.toList = l ++ t :: u :: m) (hl : l.length = i) :
    ((p.setIfInBounds i v).eraseIdxIfInBounds (i + 1)).toList = l ++ v :: m := by
  subst hl
  rw [Array.toList_eraseIdxIfInBounds, Array.toList_setIfInBounds, e, List.set_append_right _ _ (Nat.le_refl _), Nat.sub_self, List.set_cons_zero, List.eraseIdx_append_of_length_le (by omega), Nat.add_sub_cancel_left]
  rfl
end
section
variable {prog : Program} {w : World} {A : Around} {E : Value → Shared → Prop} {s : Shared} {κ : SortKind} {O : KeyOrd} {key : Keyed → O.α} {Good : Keyed → Prop} {a₀ : Array Keyed}
/-- the runs found up to hi, and the rest as it was -/
structure Pd (κ : SortKind) (O : KeyOrd) (key : Keyed → O.α) (a₀ : Array Keyed) (hi : Nat) (st : SortSt) : Prop where
  kp : Kp κ a₀ st
  run : Rn O key (arrOf st) 0 (rl (pendingOf st)) hi
  fits : hi ≤ a₀.size
theorem mergeTwo_ok {st : SortSt} {hi i : Nat} {Q : Bool → SortSt → Prop} (L : LtOk prog w A E s κ O key Good) (g : ∀ x ∈ a₀.toList, Good x) (P : Pd κ O key a₀ hi st) (hi' : i + 1 < (pendingOf st).size)
    (h : ∀ st', Pd κ O key a₀ hi st' → (pendingOf st').size + 1 = (pendingOf st).size → (∀ i, hi ≤ i → (arrOf st')[i]? = (arrOf st)[i]?) → Q true st') : wpS (model prog w) A E s (mergeAt' i) Q st := by
  obtain ⟨l, ⟨sa, na, p⟩, ⟨sb, nb, q⟩, m, ep, hl, e1, e2⟩ := two_at hi'
  have R := P.run
  unfold rl at R
  rw [ep, List.map_append] at R
  obtain ⟨mid, R1, r1, r2, r3, r4, r5, r6, R2⟩ := Rn.split R
  dsimp only at r1 r2 r3 r4 r5 r6 R2
  subst r1
  subst r4
  have lim := Rn.le R2
  refine mergeAt_ok L g P.kp e1 e2 r2 r5 (by have := P.fits; omega) r3 r6 fun st' K' e3 sS fr => h st' ⟨K', ?_, P.fits⟩ ?_ fun i i1 => fr i (by omega)
  · unfold rl
    rw [e3, rl_two ep hl, List.map_append]
    refine Rn.app (R1.keep fun i i1 i2 => fr i (by omega)) ⟨rfl, by show 0 < na + nb; omega, sS, ?_⟩
    show Rn O key (arrOf st') (sa + (na + nb)) _ hi
    rw [← Nat.add_assoc]
    exact R2.keep fun i i1 i2 => fr i (by omega)
  · have l1 := congrArg List.length (rl_two (v := (sa, na + nb, p)) ep hl)
    have l2 := congrArg List.length ep
    rw [← e3] at l1
    rw [Array.length_toList] at l1 l2
    rw [l1, l2, List.length_append, List.length_append]
    simp only [List.length_cons]
    omega
theorem Pd.kpSet {st : SortSt} {hi : Nat} {p : Array (Nat × Nat × Nat)} (P : Pd κ O key a₀ hi st) (e : rl p = rl (pendingOf st)) : Pd κ O key a₀ hi (setPending st p) :=
  ⟨⟨P.kp.kind, P.kp.perm, P.kp.fail⟩, by
    show Rn O key (arrOf st) 0 (rl p) hi
    rw [e]
    exact P.run, P.fits⟩
theorem Pd.push {st : SortSt} {lo n q : Nat} (P : Pd κ O key a₀ lo st) (hn : 1 ≤ n) (hf : lo + n ≤ a₀.size) (S : (sg (arrOf st) lo n).Pairwise (Le O key)) : Pd κ O key a₀ (lo + n) (setPending st ((pendingOf st).push (lo, n, q))) :=
  ⟨⟨P.kp.kind, P.kp.perm, P.kp.fail⟩, by
    show Rn O key (arrOf st) 0 (rl ((pendingOf st).push (lo, n, q))) (lo + n)
    rw [rl_push]
    exact P.run.push (fun _ _ _ => rfl) hn S, hf⟩
theorem sortRuns_ok {st : SortSt} {Q : Unit → SortSt → Prop} (L : LtOk prog w A E s κ O key Good) (g : ∀ x ∈ a₀.toList, Good x) (K : Kp κ a₀ st) (h0 : pendingOf st = #[]) (h1 : 1 ≤ a₀.size)
    (h : ∀ st', Kp κ a₀ st' → (arrOf st').toList.Pairwise (Le O key) → Q () st') : wpS (model prog w) A E s sortRuns' Q st := by
  rw [sortRuns'_eq]
  refine wpS_bind (wpS_get ?_)
  dsimp only
  rw [K.size]
  have P0 : Pd κ O key a₀ 0 st := ⟨K, by rw [h0]; rfl, Nat.zero_le _⟩
  refine wpS_bind (wpS_mono (wpS_forRange (I := fun x c z => ∃ lo, c = (none, lo) ∧ Pd κ O key a₀ lo z ∧ (x ≤ lo ∨ lo = a₀.size)) (Q := fun c z => c = (none, a₀.size) ∧ Pd κ O key a₀ a₀.size z) (fun x c z l1 l2 => ?_) (fun c z => ?_) ⟨0, rfl, P0, .inl (Nat.le_refl 0)⟩) fun c z => ?_)
  · rintro ⟨lo, rfl, P, le⟩
    dsimp only
    refine ite_ok (fun q => wpS_pure ?_) (fun q => ?_)
    · obtain rfl : lo = a₀.size := by have := P.fits; omega
      exact ⟨rfl, P⟩
    have old : ∀ {n : Nat} {z' : SortSt}, Cr κ a₀ z lo n z' → Pd κ O key a₀ lo z' := fun C => ⟨C.kp, by rw [C.pend]; exact P.run.keep fun i _ i2 => C.frm i (by omega), P.fits⟩
    refine wpS_bind (countRun_ok L g P.kp (by omega) (by omega) fun m z1 C1 m1 m2 up1 => ?_)
    dsimp only
    refine ite_ok (fun mr => ?_) (fun _ => ?_)
    · refine wpS_bind (wpS_lift (wpAny_rule ⟨rfl, ?_⟩))
      refine wpS_bind (binarySort_ok L g C1.kp (by omega) (by omega) up1 fun z2 C2 up2 => ?_)
      have hn : 1 ≤ min (a₀.size - lo) (minRun' a₀.size a₀.size 0) := by omega
      have hf : lo + min (a₀.size - lo) (minRun' a₀.size a₀.size 0) ≤ a₀.size := by omega
      rw [if_neg (by simp)]
      have P2 : Pd κ O key a₀ lo z2 := old (n := a₀.size - lo) ⟨C2.kp, C2.pend.trans C1.pend, C1.frm.trans fun i hi => C2.frm i (by omega)⟩
      refine wpS_bind (wpS_get ?_)
      cases eb : (pendingOf z2).back? with
      | none =>
        dsimp only
        exact wpS_bind (wpS_modify (wpS_pure ⟨lo + (min (a₀.size - lo) (minRun' a₀.size a₀.size 0)), rfl, Pd.push P2 hn hf (inc_seg up2), .inl (by omega)⟩))
      | some t =>
        obtain ⟨s1, n1, pw⟩ := t
        dsimp only
        refine wpS_bind (wpS_mono (wpS_forRange (I := fun _ c y => c = (none, ()) ∧ Pd κ O key a₀ lo y ∧ (sg (arrOf y) lo (min (a₀.size - lo) (minRun' a₀.size a₀.size 0))).Pairwise (Le O key)) (Q := fun c y => c = (none, ()) ∧ Pd κ O key a₀ lo y ∧ (sg (arrOf y) lo (min (a₀.size - lo) (minRun' a₀.size a₀.size 0))).Pairwise (Le O key)) (fun x' c y _ _ => ?_) (fun _ _ hh => hh) ⟨rfl, P2, (inc_seg up2)⟩) fun c y => ?_)
        · rintro ⟨rfl, P2, S2⟩
          refine wpS_bind (wpS_get ?_)
          by_cases q2 : (pendingOf y).size > 1
          · obtain ⟨t, et⟩ : ∃ t, (pendingOf y)[(pendingOf y).size - 2]? = some t := ⟨_, getElem?_pos _ _ (by omega)⟩
            rw [if_pos q2, et]
            dsimp only
            refine ite_ok (fun _ => wpS_pure ⟨rfl, P2, S2⟩) fun _ => wpS_bind (mergeTwo_ok L g P2 (by omega) fun y' P3 _ fr => ?_)
            rw [if_neg (by simp)]
            refine wpS_pure ⟨rfl, P3, ?_⟩
            rw [sg_congr (b := arrOf y) fun i _ => fr _ (Nat.le_add_right lo i)]
            exact S2
          · rw [if_neg q2]
            exact wpS_pure ⟨rfl, P2, S2⟩
        · rintro ⟨rfl, P2, S2⟩
          dsimp only
          refine wpS_bind (wpS_modify (wpS_bind (wpS_modify (wpS_pure ⟨lo + (min (a₀.size - lo) (minRun' a₀.size a₀.size 0)), rfl, ?_, .inl (by omega)⟩))))
          exact Pd.push (P2.kpSet (rl_mod _ _ _ fun _ => rfl)) hn hf S2
    · have hn : 1 ≤ m := m1
      have hf : lo + m ≤ a₀.size := by omega
      refine wpS_bind (wpS_get ?_)
      cases eb : (pendingOf z1).back? with
      | none =>
        dsimp only
        exact wpS_bind (wpS_modify (wpS_pure ⟨lo + m, rfl, Pd.push (old C1) hn hf (inc_seg up1), .inl (by omega)⟩))
      | some t =>
        obtain ⟨s1, n1, pw⟩ := t
        dsimp only
        refine wpS_bind (wpS_mono (wpS_forRange (I := fun _ c y => c = (none, ()) ∧ Pd κ O key a₀ lo y ∧ (sg (arrOf y) lo m).Pairwise (Le O key)) (Q := fun c y => c = (none, ()) ∧ Pd κ O key a₀ lo y ∧ (sg (arrOf y) lo m).Pairwise (Le O key)) (fun x' c y _ _ => ?_) (fun _ _ hh => hh) ⟨rfl, (old C1), (inc_seg up1)⟩) fun c y => ?_)
        · rintro ⟨rfl, P2, S2⟩
          refine wpS_bind (wpS_get ?_)
          by_cases q2 : (pendingOf y).size > 1
          · obtain ⟨t, et⟩ : ∃ t, (pendingOf y)[(pendingOf y).size - 2]? = some t := ⟨_, getElem?_pos _ _ (by omega)⟩
            rw [if_pos q2, et]
            dsimp only
            refine ite_ok (fun _ => wpS_pure ⟨rfl, P2, S2⟩) fun _ => wpS_bind (mergeTwo_ok L g P2 (by omega) fun y' P3 _ fr => ?_)
            rw [if_neg (by simp)]
            refine wpS_pure ⟨rfl, P3, ?_⟩
            rw [sg_congr (b := arrOf y) fun i _ => fr _ (Nat.le_add_right lo i)]
            exact S2
          · rw [if_neg q2]
            exact wpS_pure ⟨rfl, P2, S2⟩
        · rintro ⟨rfl, P2, S2⟩
          dsimp only
          refine wpS_bind (wpS_modify (wpS_bind (wpS_modify (wpS_pure ⟨lo + m, rfl, ?_, .inl (by omega)⟩))))
          exact Pd.push (P2.kpSet (rl_mod _ _ _ fun _ => rfl)) hn hf S2
  · rintro ⟨lo, rfl, P, le⟩
    obtain rfl : lo = a₀.size := by have := P.fits; omega
    exact ⟨rfl, P⟩
  · rintro ⟨rfl, P⟩
    dsimp only
    have few : (pendingOf z).size ≤ a₀.size := by have := Rn.le P.run; rw [rl_len] at this; omega
    refine wpS_bind (wpS_mono (wpS_forRange (I := fun x c y => c = (none, ()) ∧ Pd κ O key a₀ a₀.size y ∧ (pendingOf y).size + x ≤ a₀.size + 1) (Q := fun c y => c = (none, ()) ∧ Pd κ O key a₀ a₀.size y ∧ (pendingOf y).size ≤ 1) (fun x c y _ l2 => ?_) (fun c y => ?_) ⟨rfl, P, by omega⟩) fun c y => ?_)
    · rintro ⟨rfl, P2, le⟩
      refine wpS_bind (wpS_get ?_)
      refine ite_ok (fun q => wpS_pure ⟨rfl, P2, q⟩) fun q => ?_
      have go : ∀ i, i + 1 < (pendingOf y).size → wpS (model prog w) A E s (mergeAt' i) (fun b z => b = true ∧ Pd κ O key a₀ a₀.size z ∧ (pendingOf z).size + (x + 1) ≤ a₀.size + 1) y := fun i hi =>
        mergeTwo_ok L g P2 hi fun z P3 e _ => ⟨rfl, P3, by omega⟩
      refine wpS_bind (wpS_mono (go _ ?_) ?_)
      · have pick : ∀ (c : Prop) [Decidable c], (if c then (pendingOf y).size - 2 - 1 else (pendingOf y).size - 2) + 1 < (pendingOf y).size := fun c _ => by split <;> omega
        exact pick _
      · rintro b z ⟨rfl, P3, e⟩
        rw [if_neg (by simp)]
        exact wpS_pure ⟨rfl, P3, e⟩
    · rintro ⟨rfl, P2, le⟩
      exact ⟨rfl, P2, by omega⟩
    · rintro ⟨rfl, P2, le⟩
      refine wpS_pure (h y P2.kp ?_)
      have R := P2.run
      have sz := P2.kp.size
      rw [← rl_len] at le
      revert R le
      generalize rl (pendingOf y) = l
      intro le R
      match l, le, R with
      | [], _, R => exact absurd (show 0 = a₀.size from R) (by omega)
      | [t], _, ⟨_, _, R3, R4⟩ =>
        have e : t.2 = (arrOf y).size := by rw [sz]; simpa [Rn] using R4
        rw [e] at R3
        have : sg (arrOf y) 0 (arrOf y).size = (arrOf y).toList := by
          unfold sg
          rw [List.drop_zero, List.take_of_length_le (by simp)]
        rw [this] at R3
        exact R3
      | _ :: _ :: _, le, _ => simp at le
end
end Ts

/-! ### list.sort of tuples of ints, however many -/
namespace Sx
open PySem PySem.W PyProof.Rows
theorem ints_inj : ∀ {vs : List Value} {ns ms : List Int}, IntsAre vs ns → IntsAre vs ms → ns = ms
  | _, _, _, .nil, .nil => rfl
  | _, _, _, .cons _ _ a, .cons _ _ b => by rw [ints_inj a b]
theorem TupI.inj {h : Heap} {a : Addr} {t u : List Int} (x : TupI h a t) (y : TupI h a u) : t = u := by
  obtain ⟨o, its, n, e1, _, e2, e3⟩ := x
  obtain ⟨o', its', n', f1, _, f2, f3⟩ := y
  rw [e1] at f1
  cases f1
  rw [e2] at f2
  cases f2
  exact ints_inj e3 f3
open Classical in
/-- the numbers of the tuple at r -/
noncomputable def tOf (h : Heap) (r : Addr) : List Int := if q : ∃ t, TupI h r t then Classical.choose q else []
theorem tOf_eq {h : Heap} {r : Addr} {t : List Int} (x : TupI h r t) : tOf h r = t := by
  have q : ∃ t, TupI h r t := ⟨t, x⟩
  unfold tOf
  rw [dif_pos q]
  exact (Classical.choose_spec q).inj x
noncomputable def kf (h : Heap) (x : Keyed) : List Int := match x.1 with | .ref r => tOf h r | _ => []
def dup (r : Addr) : Keyed := (.ref r, .ref r)
def und (x : Keyed) : Addr := match x.2 with | .ref r => r | _ => 0
section
variable {prog : Program} {w : World} {A : Around} {E : Value → Shared → Prop} {s : Shared}
theorem lt_ok {b : Bool} : Ts.LtOk prog w A E s (tuples' b) lexO (kf s.heap) (fun x => ∃ r t, x = dup r ∧ TupI s.heap r t) := by
  rintro x y ⟨r, t, rfl, hr⟩ ⟨q, u, rfl, hq⟩ Q st hk h
  rw [lt'_eq]
  refine wpS_bind (wpS_get ?_)
  rw [hk]
  refine wpS_bind (wpS_lift (wpAny_attempt (lt_tups hr hq ⟨rfl, ?_⟩)))
  refine wpS_pure ?_
  have e1 : kf s.heap (dup r) = t := tOf_eq hr
  have e2 : kf s.heap (dup q) = u := tOf_eq hq
  rw [e1, e2] at h
  exact h
theorem zip_dup (rs : List Addr) : ((rs.map Value.ref).toArray.zip (rs.map Value.ref).toArray).toList = rs.map dup := by
  simp only [Array.toList_zip, List.toList_toArray]
  rw [List.zip_map']
  rfl
theorem ts_of {h : Heap} : ∀ {rs : List Addr} {ts : List (List Int)}, Paired (fun r t => TupI h r t ∧ t ≠ []) rs ts → ts = rs.map (tOf h)
  | _, _, .nil => rfl
  | _, _, .cons x t => by rw [List.map_cons, ← ts_of t, tOf_eq x.1]
theorem zip_self {f : Addr → List Int} : ∀ (l : List Addr), l.zip (l.map f) = l.map fun r => (r, f r)
  | [] => rfl
  | _ :: l => by rw [List.map_cons, List.zip_cons_cons, zip_self l, List.map_cons]
theorem sorted_dup {h : Heap} {rs : List Addr} {ts : List (List Int)} {l : List Keyed} (hp : Paired (fun r t => TupI h r t ∧ t ≠ []) rs ts) (pm : l.Perm (rs.map dup)) (pw : l.Pairwise (Ts.Le lexO (kf h))) :
    Sorted rs ts (l.map und) ((l.map und).map (tOf h)) ∧ l = (l.map und).map dup := by
  have e0 : ∀ m : List Addr, (m.map dup).map und = m := fun m => by rw [List.map_map]; exact (List.map_congr_left fun _ _ => rfl).trans (List.map_id _)
  have back : l = (l.map und).map dup := by
    rw [List.map_map]
    refine (List.map_id _).symm.trans (List.map_congr_left fun x hx => ?_)
    obtain ⟨r, _, rfl⟩ := List.mem_map.mp (pm.mem_iff.mp hx)
    rfl
  have pr : (l.map und).Perm rs := by
    have := pm.map und
    rwa [e0] at this
  refine ⟨⟨?_, by simp, ?_⟩, back⟩
  · rw [zip_self, ts_of hp, zip_self]
    exact pr.map _
  · rw [List.pairwise_map]
    rw [back, List.pairwise_map] at pw
    exact pw.imp fun q => q
/-- list.sort of a list of tuples of ints, however long -/
theorem sort_treeB {a : Addr} {rs : List Addr} {ts : List (List Int)} {n : Nat} {P : PySem.Fin → Shared → Prop} (ho : s.heap.get? a = some (seqObj "list" (rs.map Value.ref).toArray n)) (hb : rs.length ≤ 1000000)
    (hp : Paired (fun r t => TupI s.heap r t ∧ t ≠ []) rs ts) (hna : a ∉ rs)
    (h : ∀ rs' ts' h' c, Sorted rs ts rs' ts' → (∀ b o, b ≠ a → s.heap.get? b = some o → h'.get? b = some o) → h'.get? a = some (seqObj "list" (rs'.map Value.ref).toArray c) → P (.done (.ret .none)) { s with heap := h' }) :
    wpAny (model prog w) A (Builtin.«list.sort» ⟨[.ref a], []⟩) P E s := by
  have hl : rs.length = ts.length := Paired.length hp
  have hlt : a < s.heap.objs.size := Heap.lt_size ho
  rw [list_sort_plain]
  refine wpAny_bind (listItems_at ho rfl (wpAny_bind (listUpdate_at ho rfl ?_ (by rw [List.size_toArray, List.length_map, sizeLine_eq]; omega) (Nat.zero_le _))))
  obtain ⟨e1, ho1⟩ : ∃ e1, (s.heap.update a (Obj.mapSeq fun _ => (#[] : Array Value))).get? a = some (seqObj "list" #[] e1) := ⟨_, get?_update_seq ho fun _ => #[]⟩
  have sb := Heap.SameBut.update s.heap a (Obj.mapSeq fun _ => (#[] : Array Value))
  refine wpAny_bind (seqEpoch_at ho1 rfl (wpAny_bind (wpAny_newTuple ?_ (by rw [Array.length_toList, List.size_toArray, List.length_map, sizeLine_eq]; omega))))
  refine wpAny_bind (wpAny_newList (wpAny_holding ?_) (Nat.zero_le _))
  generalize hh2 : (Heap.push (Heap.push (s.heap.update a (Obj.mapSeq fun _ => (#[] : Array Value))) _) _) = h2
  have old : ∀ b o, b ≠ a → s.heap.get? b = some o → h2.get? b = some o := fun b o hb e => by
    rw [← hh2]
    exact Heap.get?_push_of_some _ (Heap.get?_push_of_some _ ((sb.2 b hb).trans e))
  have ho2 : h2.get? a = some (seqObj "list" #[] e1) := by
    rw [← hh2]
    exact Heap.get?_push_of_some _ (Heap.get?_push_of_some _ ho1)
  have fin : ∀ (rs' : List Addr) (ts' : List (List Int)), Sorted rs ts rs' ts' → ∀ (out : Array Value), out = (rs'.map Value.ref).toArray →
      P (.done (.ret .none)) { s with heap := h2.update a (Obj.mapSeq fun _ => out) } := fun rs' ts' hS out eo => by
    subst eo
    refine h rs' ts' _ _ hS (fun b o hb e => ?_) (get?_update_seq ho2 fun _ => (rs'.map Value.ref).toArray)
    exact ((Heap.SameBut.update h2 a (Obj.mapSeq fun _ => (rs'.map Value.ref).toArray)).2 b hb).trans (old b o hb e)
  have hsz : (rs.map Value.ref).toArray.size = rs.length := by rw [List.size_toArray, List.length_map]
  dsimp only
  by_cases h2' : (rs.map Value.ref).toArray.size < 2
  · rw [if_pos h2', if_pos h2']
    refine wpAny_bind (wpAny_pure ?_)
    rw [StateT.run_pure]
    refine wpAny_bind (wpAny_pure ?_)
    dsimp only
    have eo : (arrOf (SortSt.mk' general' ((rs.map Value.ref).toArray.zip (rs.map Value.ref).toArray) #[] 7 none)).map (fun x => x.2) = (rs.map Value.ref).toArray := by
      show ((rs.map Value.ref).toArray.zip (rs.map Value.ref).toArray).map (fun x => x.2) = _
      apply Array.toList_inj.mp
      simp only [Array.toList_map, Array.toList_zip, List.toList_toArray]
      exact List.map_snd_zip (Nat.le_refl _)
    refine wpAny_bind (seqEpoch_at ho2 rfl (wpAny_bind (listUpdate_at ho2 rfl ?_ (Nat.zero_le _) (by rw [eo, hsz, sizeLine_eq]; omega))))
    simp only [bne_self_eq_false, Bool.false_eq_true, if_false]
    refine wpAny_pure (fin rs ts ⟨List.Perm.refl _, hl, ?_⟩ _ eo)
    rw [List.pairwise_iff_getElem]
    intro i j hi hj hij
    exfalso
    omega
  · rw [if_neg h2', if_neg h2']
    have hp2 : Paired (fun r t => TupI h2 r t ∧ t ≠ []) rs ts := by
      clear fin h
      have go : ∀ {l : List Addr} {m : List (List Int)}, Paired (fun r t => TupI s.heap r t ∧ t ≠ []) l m → (∀ r ∈ l, r ≠ a) → Paired (fun r t => TupI h2 r t ∧ t ≠ []) l m := by
        intro l m q
        induction q with
        | nil => intro _; exact .nil
        | cons hr _ ih => intro hn; exact .cons ⟨hr.1.keep fun o e => old _ o (hn _ (.head _)) e, hr.2⟩ (ih fun r hr' => hn r (.tail _ hr'))
      exact go hp fun r hr z => hna (z ▸ hr)
    refine wpAny_bind (kind_tups (s := { s with heap := h2 }) (by omega) hp2 fun b => ?_)
    have gd : ∀ x ∈ ((rs.map Value.ref).toArray.zip (rs.map Value.ref).toArray).toList, ∃ r t, x = dup r ∧ TupI h2 r t := fun x hx => by
      rw [zip_dup] at hx
      obtain ⟨r, hr, rfl⟩ := List.mem_map.mp hx
      obtain ⟨i, hi, e⟩ := List.getElem_of_mem hr
      obtain ⟨t, _, ht, _⟩ := pair_at (i := i) (a := r) hp2 (by rw [← e]; simp [hi])
      exact ⟨r, t, rfl, ht⟩
    have sz0 : ((rs.map Value.ref).toArray.zip (rs.map Value.ref).toArray).size = rs.length := by rw [← Array.length_toList, zip_dup, List.length_map]
    have run : wpS (model prog w) A E { s with heap := h2 } sortRuns' (fun _ st' => failedOf st' = none ∧ (arrOf st').toList.Perm (rs.map dup) ∧ (arrOf st').toList.Pairwise (Ts.Le lexO (kf h2))) (SortSt.mk' (tuples' b) ((rs.map Value.ref).toArray.zip (rs.map Value.ref).toArray) #[] 7 none) :=
      Ts.sortRuns_ok (a₀ := (rs.map Value.ref).toArray.zip (rs.map Value.ref).toArray) (lt_ok (s := { s with heap := h2 })) gd ⟨rfl, List.Perm.refl _, rfl⟩ rfl (by omega) fun st' K' pw => ⟨K'.fail, by rw [← zip_dup]; exact K'.perm, pw⟩
    refine wpAny_bind (wpAny_mono run ?_ fun _ _ e => e)
    rintro ⟨⟨⟩, st'⟩ s' ⟨rfl, hf, pm, pw⟩
    dsimp only at hf pm pw ⊢
    obtain ⟨hS, back⟩ := sorted_dup hp2 pm pw
    have eo : (arrOf st').map (fun x => x.2) = (((arrOf st').toList.map und).map Value.ref).toArray := by
      apply Array.toList_inj.mp
      rw [Array.toList_map, List.toList_toArray]
      generalize hl2 : (arrOf st').toList.map und = m at back ⊢
      rw [back, List.map_map]
      rfl
    refine wpAny_bind (seqEpoch_at ho2 rfl (wpAny_bind (listUpdate_at ho2 rfl ?_ (Nat.zero_le _) ?_)))
    · rw [hf]
      simp only [bne_self_eq_false, Bool.false_eq_true, if_false]
      exact wpAny_pure (fin _ _ hS _ eo)
    · show ((arrOf st').map (fun x => x.2)).size ≤ _
      have := pm.length_eq
      rw [List.length_map, Array.length_toList] at this
      rw [Array.size_map, this, sizeLine_eq]
      omega
end
end Sx

/-! ### sorted(..) of tuples of ints, however many -/
namespace L2
open PySem PySem.Spec PyProof.Rows
section
variable {X : Cx} {pins : List (Addr × Obj)} {σ : St} {H : Hp} {s : Shared}
/-- behind the copy: a new list of the tuples is sorted -/
theorem sort_newB {A : Around} {E : Value → Shared → Prop} {Q : Value → Shared → Prop} {rs : List Addr} {ts : List (List Int)} {h1 : Heap} {tk : Nat} (I : Inv X pins σ H s) (k1 : ∀ b o, s.heap.get? b = some o → h1.get? b = some o)
    (hp : TupsH H rs ts) (h64 : rs.length ≤ 1000000) (h : ∀ rs' ts' s' p, Sx.Sorted rs ts rs' ts' → H p = none → Inv X pins σ (upd H p (.lst (rs'.map V.ref))) s' → Q (.ref p) s') :
    wpAny (model X.prog X.w) A (newList (rs.map Value.ref)) (fun l s' => wpAny (model X.prog X.w) A (call (.builtin "list.sort") [l]) (fun _ s'' => Q l s'') E s') E { s with heap := h1, toks := tk } := by
  have I1 : Inv X pins σ H { s with heap := h1, toks := tk } := I.kept k1
  refine wpAny_newList ?_ (by rw [List.length_map, sizeLine_eq]; omega)
  have ho : (h1.push { cls := .type "list", data := .seq (rs.map Value.ref).toArray }).get? h1.objs.size = some (seqObj "list" (rs.map Value.ref).toArray 0) := Heap.get?_push_size _ rfl
  have hfr : H h1.objs.size = none := I1.hok.fresh (Nat.le_refl _)
  have hne : h1.objs.size ∉ rs := fun hm => by
    obtain ⟨i, hi, e⟩ := List.getElem_of_mem hm
    obtain ⟨t, _, q, _⟩ := Sx.pair_at (i := i) (a := h1.objs.size) hp (by rw [← e]; simp [hi])
    rw [hfr] at q; cases q
  have I2 : Inv X pins σ H { s with heap := h1.push { cls := .type "list", data := .seq (rs.map Value.ref).toArray }, toks := tk } := I1.kept fun b o e => Heap.get?_push_of_some _ e
  refine wpAny_call_entry slot_list_sort ⟨_, ho, rfl⟩ entry_list_sort (Sx.sort_treeB (s := { s with heap := h1.push { cls := .type "list", data := .seq (rs.map Value.ref).toArray }, toks := tk }) ho h64 (I2.tupsI hp) hne fun rs' ts' h' c hS hk hl => ⟨_, rfl, ?_⟩) (args_list_sort _)
  refine h rs' ts' _ h1.objs.size hS hfr (I1.laid (a := h1.objs.size) (fun b o e => hk b o (Nat.ne_of_lt (Heap.lt_size e)) (Heap.get?_push_of_some _ e)) (Nat.le_refl _) ?_)
  have hlen : rs'.length = rs.length := by
    have e := hS.perm.length_eq
    have e2 := hS.len
    have e3 := Paired.length hp
    simp only [List.length_zip] at e
    omega
  exact ⟨by rw [List.length_map, sizeLine_eq]; omega, rs'.map Value.ref, c, vals_refs rs', hl⟩
end
section
variable {X : Cx}
theorem call_sortedLB : CallR X (.builtin "sorted") (fun xs H Q => ∃ a rs ts, xs = [.ref a] ∧ SqL X.K H a (rs.map V.ref) ∧ rs.length ≤ 1000000 ∧ TupsH H rs ts ∧
    ∀ rs' ts' p, Sx.Sorted rs ts rs' ts' → H p = none → Q (.ref p) (upd H p (.lst (rs'.map V.ref)))) := by
  intro pins s σ H xs us Q I r h
  obtain ⟨a, rs, ts, rfl, hq, h64, hp, q⟩ := h
  obtain ⟨u, rfl, ru⟩ := vals1 r
  cases ru
  obtain ⟨its, rv, pl, hz⟩ := I.list hq
  have ei := refs_of rv
  subst ei
  refine Calls.call_function_entry kind_sorted plain_sorted entry_sorted (args_sorted1 _) ?_
  unfold Builtin.«sorted»
  refine wpAny_bind (m := checkCount "sorted" 1 1 _) (wpAny_pure (wpAny_bind (collect_list pl.isList ?_ (by rw [List.length_map, sizeLine_eq]; omega))))
  have fin := sort_newB (A := X.A.in1) (E := X.xe) (Q := fun v s' => EP X pins σ Q v s') (h1 := (s.heap.push (seqObj "list" #[] 0)).update s.heap.objs.size (Obj.mapSeq (· ++ (rs.map Value.ref).toArray))) (tk := s.toks) I (fun b o e =>
    ((Heap.SameBut.update _ _ _).2 b (Nat.ne_of_lt (Heap.lt_size e))).trans (Heap.get?_push_of_some _ e)) hp h64 fun rs' ts' s' p hS hf I' => ⟨.ref p, _, I', rfl, q rs' ts' p hS hf⟩
  refine wpAny_bind (wpAny_mono fin (fun l s' hl => wpAny_bind (wpAny_holding (wpAny_mono hl (fun _ s'' hq' => wpAny_pure ⟨_, rfl, hq'⟩) fun _ _ e => e))) fun _ _ e => e)
end
end L2

/-! ### list(reversed(..)) of a list -/
namespace Rv
open PySem PySem.W PyProof.Rows
abbrev RIT : String := "list_reverseiterator"
/-- the iterator it of the list l, k items ahead -/
def IsRit (h : Heap) (it l : Addr) (k : Int) : Prop := ∃ (o : Obj) (t : Tok), h.get? it = some o ∧ o.cls = .type RIT ∧ o.data = .fields #[.ref l, .int (k - 1) t]
section
variable {prog : Program} {w : World} {A : Around} {E : Value → Shared → Prop} {s : Shared} {it l : Addr} {k : Int} {xs : Array Value}
end
end Rv

namespace Rv
open PySem PySem.W PyProof.Rows
section
variable {prog : Program} {w : World} {A : Around} {E : Value → Shared → Prop} {s : Shared}
end
end Rv

/-! ### k11: more rules: a loop over zip(..), list(range(..)), list(reversed(..)), != of tuples -/
namespace L2
open PySem PySem.Spec PyProof.Rows
/-- two lists side by side -/
def Itz (K : PySem.W.Frag) (a b : Addr) : It :=
  ⟨fun i H => ∃ xs ys x y, SqL K H a xs ∧ SqL K H b ys ∧ xs[i]? = some x ∧ ys[i]? = some y,
   fun i H x H' => ∃ t u v, x = .ref t ∧ H t = none ∧ H' = upd H t (.tup [u, v]) ∧ ∀ xs ys, SqL K H a xs → SqL K H b ys → xs[i]? = some u ∧ ys[i]? = some v,
   fun i H => ∃ xs ys, SqL K H a xs ∧ SqL K H b ys ∧ (xs.length ≤ i ∨ ys.length ≤ i)⟩
section
variable {X : Cx} {pins : List (Addr × Obj)} {σ : St} {H H' : Hp} {s : Shared} {h' : Heap}
end
section
variable {X : Cx} {elts : List Expr} {x1 : Nat} {p0 : Pos}
def iZip (K : PySem.W.Frag) (ta : TA) : TI := fun σ H R => ta σ H fun vs H1 => ∃ a b, vs = [.ref a, .ref b] ∧ (∃ xs, SqL K H1 a xs) ∧ (∃ ys, SqL K H1 b ys) ∧ R (Itz K a b) H1
end
end L2

namespace L2
open PySem PySem.Spec PyProof.Rows
/-- 0, 1, .. n - 1 -/
def upto (n : Nat) : List Int := (List.range n).map fun (i : Nat) => (i : Int)
def tLR (ta : TA) : TE := fun σ H Q => ta σ H fun vs H1 => ∃ j : Int, vs = [.int j] ∧ 0 ≤ j ∧ j ≤ 1000 ∧ ∀ l, H1 l = none → Q (.ref l) (upd H1 l (.lst ((upto j.toNat).map V.int)))
section
variable {X : Cx}
end
section
variable {X : Cx} {pins : List (Addr × Obj)} {σ : St} {H : Hp} {s : Shared}
/-- two lists of tuples of ints: != -/
theorem op_neLT (hu : X.A.units + 1 < cLine) : OpR X (compareOp .NotEq) (fun x y H Q => ∃ (a b : Addr) (rs qs : List Addr) (ts us : List (List Int)), x = .ref a ∧ y = .ref b ∧ SqL X.K H a (rs.map V.ref) ∧ SqL X.K H b (qs.map V.ref) ∧ TupsH H rs ts ∧ TupsH H qs us ∧ Q (.bl (!decide (ts = us))) H) := by
  intro pins s σ H x y v u Q I rx ry h
  obtain ⟨a, b, rs, qs, ts, us, rfl, rfl, ha, hb, hp, hq, q⟩ := h
  cases rx
  cases ry
  obtain ⟨ia, ra, pa, _⟩ := I.list ha
  obtain ⟨ib, rb, pb, _⟩ := I.list hb
  obtain rfl := refs_of ra
  obtain rfl := refs_of rb
  have l1 := Paired.length hp
  have l2 := Paired.length hq
  have hu' : X.A.units < cLine := by omega
  rcases Nat.decEq rs.length qs.length with hl | hl
  · have := SeqAt.RcNeAt.lists_lengths (A := X.A) pa.isList pb.isList (by simpa using hl) hu'
    obtain e : decide (ts = us) = false := decide_eq_false fun e => hl (by rw [l1, l2, e])
    rw [e] at q
    exact this X.prog X.w _ _ ⟨.bl _, H, I, rfl, q⟩
  · have := SeqAt.RcNeAt.lists (A := X.A) (e := fun j => decide (ts.getD j [] = us.getD j [])) pa.isList pb.isList (by simp [hl]) hu' fun j h1 h2 => by
      have h1' : j < rs.length := by simpa using h1
      have h2' : j < qs.length := by simpa using h2
      obtain ⟨t, et, ht, _⟩ := Sx.pair_at (i := j) (a := rs[j]) hp (by simp [h1'])
      obtain ⟨t', et', ht', _⟩ := Sx.pair_at (i := j) (a := qs[j]) hq (by simp [h2'])
      obtain ⟨e1, e2⟩ : ts.getD j [] = t ∧ us.getD j [] = t' := ⟨by simp [et], by simp [et']⟩
      rw [e1, e2]
      simp only [List.getElem_toArray, List.getElem_map]
      exact Sx.eqAt_tups (I.tupI ht) (I.tupI ht') hu
    rw [show (rs.map Value.ref).toArray.size = ts.length by simp [l1], all_eqL ts us (by omega)] at this
    exact this X.prog X.w _ _ ⟨.bl _, H, I, rfl, q⟩
end
end L2

namespace L2
open PySem PySem.Spec PyProof.Rows
def tLV (K : PySem.W.Frag) (ta : TA) : TE := fun σ H Q => ta σ H fun vs H1 => ∃ a xs, vs = [.ref a] ∧ SqL K H1 a xs ∧ ∀ l, H1 l = none → Q (.ref l) (upd H1 l (.lst xs.reverse))
end L2

/-! ### len(set(x)), x a list of ints -/
namespace L2
open PySem PySem.Spec PyProof.Rows
/-- how many unlike numbers -/
def unlike (t : List Int) : Nat := (firstMet (fun i => t.getD i 0) t.length).length
def tLenSet (K : PySem.W.Frag) (ta : TA) : TE := fun σ H Q => ta σ H fun vs H1 => ∃ (a : Addr) (t : List Int), vs = [.ref a] ∧ SqL K H1 a (t.map V.int) ∧ t.length ≤ 1000 ∧ Q (.int (unlike t)) H1
end L2

/-! ### what the laws over webs and pairs share -/
namespace Mt
end Mt
namespace L2
open PySem PySem.Spec PyProof.Rows
theorem PS.imp {X : Cx} {st : Stmt} {t t' : TS} (h : PS X st t) (i : ∀ D σ H, t' D σ H → t D σ H) : PS X st t' := fun pins s σ H D I q => h pins s σ H D I (i D σ H q)
theorem pick2 {xs : List Int} {z : Int} (h0 : 0 ≤ z) (h1 : z < xs.length) : ∃ v : Int, v ∈ xs ∧ atI (xs.map V.int) z = some (.int v) := by
  have hz : z.toNat < xs.length := by omega
  refine ⟨xs[z.toNat], by simp, ?_⟩
  have := atI_nat (xs := xs.map V.int) (j := z.toNat) (v := .int xs[z.toNat]) (by simp [hz])
  rwa [Int.toNat_of_nonneg h0] at this
theorem TupsH.at' {H H' : Hp} {rs : List Addr} {ts : List (List Int)} (h : TupsH H rs ts) (k : ∀ b xs, H b = some (.tup xs) → H' b = some (.tup xs)) : TupsH H' rs ts :=
  zip_paired (Paired.length h) fun z hz => ⟨k _ _ (paired_zip h z hz).1, (paired_zip h z hz).2⟩
theorem set_self {α : Type} : ∀ {l : List α} {i : Nat} {x : α}, l[i]? = some x → l.set i x = l
  | [], _, _, e => by simp at e
  | a :: l, 0, x, e => by simp at e; subst e; rfl
  | a :: l, i + 1, x, e => by
    show a :: l.set i x = a :: l
    rw [set_self (l := l) (i := i) (by simpa using e)]
theorem tup_at {rs : List Addr} {ts : List (List Int)} {H : Hp} {i : Nat} {x : V} (h : TupsH H rs ts) (e : (rs.map V.ref)[i]? = some x) : ∃ r t, x = .ref r ∧ ts[i]? = some t ∧ H r = some (.tup (t.map V.int)) := by
  rw [List.getElem?_map] at e
  cases er : rs[i]? with
  | none => rw [er] at e; cases e
  | some r =>
    rw [er] at e
    obtain ⟨t, et, ht, _⟩ := Sx.pair_at (i := i) (a := r) h er
    exact ⟨r, t, (Option.some.inj e).symm, et, ht⟩
theorem map_int_at {xs : List Int} {i : Nat} {v : V} (h : (xs.map V.int)[i]? = some v) : ∃ z, v = .int z ∧ xs[i]? = some z := by
  rw [List.getElem?_map] at h
  cases e : xs[i]? with
  | none => rw [e] at h; cases h
  | some z => rw [e] at h; exact ⟨z, (Option.some.inj h).symm, rfl⟩
/-- a cut of any list -/
def cutA {α : Type} (xs : List α) (lo hi : Option Int) : List α := (xs.drop (HT.sIx xs.length 0 lo)).take (HT.sIx xs.length xs.length hi - HT.sIx xs.length 0 lo)
theorem cut_map {α : Type} (f : α → V) (xs : List α) (lo hi : Option Int) : cutV (xs.map f) lo hi = (cutA xs lo hi).map f := by
  unfold cutV cutA
  rw [List.length_map, List.map_take, List.map_drop]
theorem sIx_lo (n : Nat) {i : Int} (h : 0 ≤ i) : HT.sIx n 0 (some i) = min i.toNat n := by
  unfold HT.sIx
  dsimp only
  rw [if_neg (by omega)]
theorem sIx_hi (n : Nat) {i : Int} (h : 0 ≤ i) : HT.sIx n n (some i) = min i.toNat n := by
  unfold HT.sIx
  dsimp only
  rw [if_neg (by omega)]
/-- all of them pairs of ints -/
def Prs (H : Hp) (rs : List Addr) : Prop := ∀ r ∈ rs, ∃ x y : Int, H r = some (.tup [.int x, .int y])
def Two (ts : List (List Int)) : Prop := ∀ t ∈ ts, ∃ x y : Int, t = [x, y]
theorem bt_bool : bootBuiltins "bool" = some (.type "bool") := by decide +kernel
theorem bt_int : bootBuiltins "int" = some (.type "int") := by decide +kernel
theorem bt_list : bootBuiltins "list" = some (.type "list") := by decide +kernel
theorem bt_tuple : bootBuiltins "tuple" = some (.type "tuple") := by decide +kernel
/-- an object laid out for the first time -/
theorem Same.new' {H : Hp} {p : Addr} {o : HO} (h : H p = none) : Same H (upd H p o) := fun b u e => by
  rw [upd_ne (ne_of_none e h)]
  exact e
end L2

/-! ### sum(x), x.index(y): lists of ints -/
namespace L2
open PySem PySem.Spec PyProof.Rows
section
variable {X : Cx}
/-- xs.index(y), y there -/
theorem mt_index : MtM X "list.index" (fun x vs H Q => ∃ (l : Addr) (t : List Int) (z : Int) (j : Nat), x = .ref l ∧ vs = [.int z] ∧ H l = some (.lst (t.map V.int)) ∧ t[j]? = some z ∧ (∀ i, i < j → t[i]? ≠ some z) ∧ Q (.int j) H) := by
  intro pins s σ H x vs v us Q I rx rv h
  obtain ⟨l, t, z, j, rfl, rfl, hH, hj, hf, q⟩ := h
  cases rx
  obtain ⟨u, rfl, ru⟩ := Vals.one rv
  obtain ⟨tk, rfl⟩ := ru
  obtain ⟨zz, its, n, r, hl, e⟩ := I.lstM hH
  have hi := intsAre_of r
  have hlen : its.length = t.length := hi.length
  have hjl : j < t.length := (List.getElem?_eq_some_iff.mp hj).1
  have at_ : ∀ m (hm : m < its.toArray.size), ∃ t', its.toArray[m] = .int (t.getD m 0) t' := fun m hm => Sx.ints_at (i := m) (v := its.toArray[m]) hi (by simp)
  have hln := line63
  rw [List.length_map] at zz
  refine call_meets PySem.F.slot_list_index ⟨_, e, rfl⟩ PySem.F.entry_list_index (PySem.F.args_list_index_2 _ _) (PySem.SeqAt.list_indexAt l its.toArray n none #[] (.int z tk) (fun y => match y with | .int a _ => a == z | _ => false) j (by rw [List.size_toArray]; omega) (by omega) ?_ ?_) ⟨e, ?_, ?_⟩
  · obtain ⟨t', et⟩ := at_ j (by rw [List.size_toArray]; omega)
    rw [et]
    have : t.getD j 0 = z := by simp [hj]
    show (t.getD j 0 == z) = true
    rw [this]
    exact beq_self_eq_true z
  · intro m hm hmj
    obtain ⟨t', et⟩ := at_ m hm
    rw [et]
    have hml : m < t.length := by rw [List.size_toArray] at hm; omega
    have : t.getD m 0 ≠ z := fun y => hf m hmj (by rw [← y]; simp [hml])
    show (t.getD m 0 == z) = false
    exact beq_eq_false_iff_ne.mpr this
  · intro y hy
    obtain ⟨m, hm, rfl⟩ := Array.getElem_of_mem hy
    obtain ⟨t', et⟩ := at_ m hm
    rw [et]
    exact SeqAt.EqAt.int_int _ _ _ _
  · exact ⟨.int j, H, I.tok _, ⟨_, rfl⟩, q⟩
end
end L2

/-! ### range(a, b, c), x[::-1] -/
namespace L2
open PySem PySem.Spec PyProof.Rows
/-- lo, lo + st .. -/
def Its (lo st : Int) (n : Nat) : It := ⟨fun i _ => i < n, fun i H x H' => H' = H ∧ x = .int (lo + i * st), fun i _ => n ≤ i⟩
theorem turn_rangeS {P : Program} {w : World} {K : PySem.W.Frag} {tg : Expr} (it : Addr) (lo st : Int) (n : Nat) : Turn P w K tg (Its lo st n) [it] it (fun i h => IsRangeIter h it (lo + (i : Nat) * st) ((n : Int) - (i : Nat)) st) where
  mem := by simp
  obj := fun i h st b hb => by
    have e : b = it := by simpa using hb
    subst e
    exact ⟨_, st, fun v z => by
      have z' : Data.fields _ = Data.cell v := z
      cases z'⟩
  keep := fun i h h' st k => k it (by simp) _ st
  item := by
    intro X hP hw hK hc i pins s σ H E I hf stt hg
    subst hP hw hK
    obtain ⟨f0, f1, f2, f3, f4, f5⟩ := hf it (by simp)
    have W := Walks.range (prog := X.prog) (w := X.w) (I.ok.hd hc) it lo st n
    refine W.item i s _ _ hg stt fun v h' tk hv st' kk => ?_
    obtain ⟨t, rfl⟩ := hv
    have I1 : Inv X pins σ H { s with heap := h', toks := tk } := I.turned (fun b o hb e => kk b o (by simpa using hb) e) f0 f1 f3 f4 f5
    exact ⟨_, rfl, go_of (s := { s with heap := h', toks := tk }) (n := "range_iterator") st' rfl rfl (by decide) ⟨.int (lo + i * st), H, I1, ⟨t, rfl⟩, ⟨rfl, rfl⟩, st', fun b hb => (hf b hb).1⟩⟩
  done := by
    intro X hP hw hK hc i pins s σ H E I hf stt hg
    subst hP hw hK
    obtain ⟨f0, f1, f2, f3, f4, f5⟩ := hf it (by simp)
    exact wpAny_pyNext_range_end (I.ok.hd hc) stt (by have : n ≤ i := hg; omega) fun h' eb => ⟨rfl, I.turned (t' := s.toks) (fun b o hb e => eb b o hb e) f0 f1 f3 f4 f5⟩
  self := fun _ _ _ _ _ st h => wpAny_pyIter_rangeiter st h
section
variable {X : Cx} {tg : Expr}
theorem range_itS {pins : List (Addr × Obj)} {σ : St} {H : Hp} {s : Shared} {R : It → Hp → Prop} {E : Value → Shared → Prop} {lo hi st : Int} {n : Nat} {t u v : Tok} {tk : Nat} (I : Inv X pins σ H s) (hs : Builtin.Range.small lo hi st = true) (hn : Builtin.Range.rangeSize lo hi st = n)
    (q : R (Its lo st n) H) : wpAny (model X.prog X.w) X.A (pyIter (.ref s.heap.objs.size)) (PIE X pins σ tg R) E { s with heap := s.heap.push { cls := .type "range", data := .fields #[.int lo t, .int hi u, .int st v] }, toks := tk } := by
  refine wpAny_pyIter_range (IsRange.new ..) hs ?_
  have I1 : Inv X pins σ H { s with heap := s.heap.push { cls := .type "range", data := .fields #[.int lo t, .int hi u, .int st v] }, toks := tk } := I.kept fun b o e => Heap.get?_push_of_some _ e
  refine ⟨(s.heap.push { cls := .type "range", data := .fields #[.int lo t, .int hi u, .int st v] }).objs.size, [(s.heap.push { cls := .type "range", data := .fields #[.int lo t, .int hi u, .int st v] }).objs.size], _, _, H, rfl,
    I1.kept (t' := tk) fun b o e => Heap.get?_push_of_some _ e, turn_rangeS _ lo st n, ?_, fun b hb => ?_, q⟩
  · have e1 : lo + ((0 : Nat) : Int) * st = lo := by simp
    have e2 : (n : Int) - ((0 : Nat) : Int) = Builtin.Range.rangeSize lo hi st := by rw [hn]; simp
    show IsRangeIter _ _ (lo + ((0 : Nat) : Int) * st) ((n : Int) - ((0 : Nat) : Int)) st
    rw [e1, e2]
    exact Heap.get?_push_size _ rfl
  · have e : b = (s.heap.push { cls := .type "range", data := .fields #[.int lo t, .int hi u, .int st v] }).objs.size := by simpa using hb
    subst e
    exact I1.fpOk (Nat.le_refl _) (I1.hok.fresh (Nat.le_refl _))
theorem range2_size {n : Int} (h0 : -1 ≤ n) : Builtin.Range.rangeSize 0 n 2 = (((n + 1) / 2).toNat : Nat) := by
  unfold Builtin.Range.rangeSize
  rw [if_pos (by decide)]
  split <;> omega
theorem range2_small {n : Int} (h0 : -1 ≤ n) (h1 : n ≤ 1000000) : Builtin.Range.small 0 n 2 = true := by
  unfold Builtin.Range.small
  rw [range2_size h0]
  unfold Builtin.Range.rangeFitsLong
  simp
  omega
/-- range(0, n, 2) -/
def iRng02 (ta : TA) : TI := fun σ H R => ta σ H fun vs H1 => ∃ j : Int, vs = [.int 0, .int j, .int 2] ∧ -1 ≤ j ∧ j ≤ 1000000 ∧ R (Its 0 2 ((j + 1) / 2).toNat) H1
theorem pi_range02 {a b c : Expr} {ta : TA} {p pos : Pos} (hg : Gl X "range") (hm : X.mg "range" = none) (ha : PA X [a, b, c] ta) (hs : starEach [a, b, c] X.env = (false, eval a X.env) :: starEach [b, c] X.env := by rfl) (hs2 : (backTo pos (starEach [b, c] X.env)).any (·.1) = false := by rfl) :
    PI X tg (.Call (.Name "range" p) [a, b, c] [] pos) (iRng02 ta) := by
  intro pins s σ H R I h
  refine Call_ (ld_blt I hg hm boot_range (PyProof.Rows.callWith_type1 (thn (ha pos pins s σ H _ I h) fun us s1 ⟨vs, H1, I1, r1, q1⟩ => ?_) hs hs2))
  obtain ⟨j, e, j0, j1, q⟩ := q1
  subst e
  cases r1 with
  | cons r rr =>
    cases rr with
    | cons r' rr =>
      cases rr with
      | cons r2 rr =>
        cases rr
        obtain ⟨t, rfl⟩ := r
        obtain ⟨t', rfl⟩ := r'
        obtain ⟨t2, rfl⟩ := r2
        exact call_range_3 (by decide) (range_itS I1 (range2_small j0 j1) (range2_size j0) q) (.inl (PyProof.noPylong_small (by decide)))
theorem turns_rangeS {lo st : Int} {n : Nat} {D : Addr} {g : TG} {tt : TT} {te : TE} {σ0 : St} {Qd : Hp → Prop} {H1 : Hp} (Pv : Nat → List V → St → Hp → Prop) (h0 : Pv 0 [] σ0 (upd H1 D (.lst [])))
    (hD : ∀ i ys σ H, Pv i ys σ H → H D = some (.lst ys) ∧ ys.length < sizeLine)
    (hs : ∀ i ys σ H, i < n → Pv i ys σ H → g (.int (lo + i * st)) σ H fun σ2 H4 => tt σ2 H4 fun c H5 => if c = true then te σ2 H5 fun y H6 => H6 D = some (.lst ys) ∧ Nxt n i Pv (ys ++ [y]) σ2 (upd H6 D (.lst (ys ++ [y]))) else Nxt n i Pv ys σ2 H5)
    (hd : ∀ ys σ H, Pv n ys σ H → Qd H) : tTurns (Its lo st n) g tt te σ0 D Qd H1 := by
  refine ⟨fun i m ys σ H => m = n - i ∧ i ≤ n ∧ Pv i ys σ H, ⟨n, by simp, Nat.zero_le _, h0⟩, ?_⟩
  rintro i m ys σ H ⟨rfl, hi, p⟩
  obtain ⟨d1, d2⟩ := hD i ys σ H p
  refine ⟨d1, ?_⟩
  by_cases hlt : i < n
  · refine .inr ⟨hlt, d2, fun x H3 y => ?_⟩
    obtain ⟨e, y⟩ := y
    subst e y
    exact hs i ys σ _ hlt p
  · have e : i = n := by omega
    subst e
    exact .inl ⟨Nat.le_refl _, hd ys σ H p⟩
/-! x[::-1] -/
theorem pick_rev (its : List Value) : slicePick its.toArray none none (some (-1)) = its.reverse.toArray := by
  have h1 : sliceBounds none none (some (-1)) its.toArray.size = ((its.length : Int) - 1, -1, -1) := by
    simp [sliceBounds]
  unfold slicePick
  rw [h1]
  congr 1
  unfold sliceRange
  have hc : (if (-1 : Int) > 0 then if (its.length : Int) - 1 < -1 then (-1 - ((its.length : Int) - 1) + -1 - 1) / -1 else 0 else if (its.length : Int) - 1 > -1 then ((its.length : Int) - 1 - -1 - -1 - 1) / - -1 else 0) = (its.length : Int) := by
    rw [if_neg (by decide)]
    split
    · have : - (-1 : Int) = 1 := by decide
      rw [this, Int.ediv_one]
      omega
    · omega
  dsimp only
  rw [hc]
  apply List.ext_getElem?
  intro k
  rw [List.filterMap_map]
  have key : ∀ (l : List Nat), (∀ x ∈ l, x < its.length) → List.filterMap ((fun x => its.toArray[x]?) ∘ fun (k : Nat) => ((its.length : Int) - 1 + -1 * (k : Int)).toNat) l = l.map fun k => its.getD (its.length - 1 - k) .none := by
    intro l
    induction l with
    | nil => intro _; rfl
    | cons x l ih =>
      intro h
      have hx := h x (.head _)
      have e : ((its.length : Int) - 1 + -1 * (x : Int)).toNat = its.length - 1 - x := by omega
      have hl : its.length - 1 - x < its.length := by omega
      rw [List.filterMap_cons]
      have : ((fun x => its.toArray[x]?) ∘ fun (k : Nat) => ((its.length : Int) - 1 + -1 * (k : Int)).toNat) x = some (its.getD (its.length - 1 - x) .none) := by
        show its.toArray[((its.length : Int) - 1 + -1 * (x : Int)).toNat]? = _
        rw [e]
        simp [hl]
      rw [this, List.map_cons, ih fun y hy => h y (.tail _ hy)]
  rw [key _ fun x hx => by have := List.mem_range.mp hx; omega]
  rw [List.getElem?_map]
  by_cases hk : k < its.length
  · have e2 : (List.range (its.length : Int).toNat)[k]? = some k := by simp [hk]
    rw [e2, List.getElem?_reverse hk]
    simp [show its.length - 1 - k < its.length by omega]
  · have e2 : (List.range (its.length : Int).toNat)[k]? = none := by simp; omega
    rw [e2]
    symm
    simp
    omega
theorem Vals.reverse' : ∀ {xs : List V} {us : List Value}, Vals xs us → Vals xs.reverse us.reverse
  | _, _, .nil => .nil
  | _, _, .cons r t => by
    rw [List.reverse_cons, List.reverse_cons]
    exact (Vals.reverse' t).append (.cons r .nil)
def tRevS (K : PySem.W.Frag) (te ts : TE) : TE := fun σ H Q => te σ H fun x H1 => ts σ H1 fun y H2 => y = .int (-1) ∧ ∃ a xs, x = .ref a ∧ SqL K H2 a xs ∧ ∀ p, H2 p = none → Q (.ref p) (upd H2 p (.lst xs.reverse))
theorem pe_rev {e st : Expr} {te ts : TE} {p2 pos : Pos} (he : PE X e te) (hst : PE X st ts) : PE X (.Subscript e (.Slice none none (some st) p2) pos) (tRevS X.K te ts) := by
  intro pins s σ H Q I h
  refine Subscript_ (thn (he pins s σ H _ I h) fun v s1 ⟨x, H1, I1, r1, q1⟩ => ?_)
  refine wpAny_Slice ?_
  rw [evalPart_none, evalPart_some]
  refine wpAny_pure (wpAny_pure (thn (hst pins s1 σ H1 _ I1 q1) fun u s3 ⟨y, H3, I3, ry, q3⟩ => ?_))
  obtain ⟨rfl, a, xs, rfl, hx, q⟩ := q3
  obtain ⟨tk, rfl⟩ := ry
  cases r1
  have I4 : Inv X pins σ H3 { s3 with heap := s3.heap.push { cls := .type "slice", data := .fields #[.none, .none, .int (-1) tk] } } := I3.kept (t' := s3.toks) fun b ob q => Heap.get?_push_of_some _ q
  obtain ⟨its, r, ht, hz⟩ := I4.list hx
  have hlen := r.length
  have hg : wpAny (model X.prog X.w) X.A (getItem (.ref a) (.ref s3.heap.objs.size)) (EP X pins σ Q) X.xe { s3 with heap := s3.heap.push { cls := .type "slice", data := .fields #[.none, .none, .int (-1) tk] } } := by
    refine wpAny_getItem_list_slice ht.isList (Heap.IsSliceOf.new ..) .none .none (.int (-1) tk) (by decide) ?_ (by rw [List.size_toArray] <;> omega)
    rw [pick_rev]
    refine ⟨.ref _, _, I4.laid (t' := s3.toks) (o := .lst xs.reverse) (fun b ob q => Heap.get?_push_of_some _ q) (Nat.le_refl _) ?_, rfl, q _ (I4.hok.fresh (Nat.le_refl _))⟩
    exact ⟨by rw [List.length_reverse]; exact hz, _, 0, Vals.reverse' r, Heap.get?_push_size _ rfl⟩
  show wpAny (model X.prog X.w) X.A (subscriptTail e (.Slice none none (some st) p2) (.ref a) (.ref s3.heap.objs.size)) (EP X pins σ Q) X.xe { s3 with heap := s3.heap.push { cls := .type "slice", data := .fields #[.none, .none, .int (-1) tk] } }
  exact tail_any (ops := [.ref a, .ref s3.heap.objs.size]) ht.isList.typeIs slot_list_getitem.lookup hg (by with_unfolding_all rfl)
end
end L2

/-! ### k28: the text, the small ones -/
namespace L2
open PySem PySem.Spec PyProof.Rows
theorem cutA_drop {α : Type} (xs : List α) {i : Int} (h : 0 ≤ i) : cutA xs (some i) none = xs.drop i.toNat := by
  unfold cutA
  rw [sIx_lo _ h]
  have e : HT.sIx xs.length xs.length none = xs.length := rfl
  rw [e]
  by_cases q : i.toNat ≤ xs.length
  · rw [Nat.min_eq_left q, List.take_of_length_le (by rw [List.length_drop]; exact Nat.le_refl _)]
  · rw [Nat.min_eq_right (by omega), Nat.sub_self, List.take_zero, List.drop_eq_nil_of_le (by omega)]
theorem cutA_take {α : Type} (xs : List α) {i : Int} (h : 0 ≤ i) : cutA xs none (some i) = xs.take i.toNat := by
  unfold cutA
  rw [sIx_hi _ h]
  have e : HT.sIx xs.length 0 none = 0 := rfl
  rw [e, List.drop_zero, Nat.sub_zero]
  by_cases q : i.toNat ≤ xs.length
  · rw [Nat.min_eq_left q]
  · rw [Nat.min_eq_right (by omega), List.take_length, List.take_of_length_le (by omega)]
theorem atI_get' {xs : List Int} {z : Int} {k : Nat} (e : z = k) (h : k < xs.length) : atI (xs.map V.int) z = some (.int (xs.getD k 0)) := by
  subst e
  exact atI_nat (by simp [h])
theorem inV_ints (x : Int) (t : List Int) : inV (.int x) (t.map V.int) = decide (x ∈ t) := by
  unfold inV
  rw [List.any_map, Bool.eq_iff_iff, decide_eq_true_iff, List.any_eq_true]
  constructor
  · rintro ⟨y, hy, e⟩
    have e : (y == x) = true := e
    exact beq_iff_eq.mp e ▸ hy
  · exact fun h => ⟨x, h, beq_self_eq_true x⟩
theorem flat_ints (us : List Int) : (us.map V.int).all flatV = true := by
  rw [List.all_map]
  exact List.all_eq_true.mpr fun _ _ => rfl
theorem upto_succ (n : Nat) : upto (n + 1) = upto n ++ [(n : Int)] := by
  unfold upto
  rw [List.range_succ, List.map_append]
  rfl
theorem upto_len (n : Nat) : (upto n).length = n := by simp [upto]
theorem upto_nd (n : Nat) : (upto n).Nodup := by
  induction n with
  | zero => exact List.nodup_nil
  | succ n ih =>
    rw [upto_succ, List.nodup_append]
    refine ⟨ih, by simp, fun a ha b hb => ?_⟩
    rw [List.mem_singleton] at hb
    obtain ⟨k, hk, rfl⟩ := List.mem_map.mp ha
    have := List.mem_range.mp hk
    omega
/-- where no number comes twice, it stands at one place -/
theorem first_of {t : List Int} (h : t.Nodup) {j : Nat} {z : Int} (e : t[j]? = some z) : ∀ i, i < j → t[i]? ≠ some z := fun i hi q => by
  have h : t.Pairwise (· ≠ ·) := h
  rw [List.pairwise_iff_getElem] at h
  obtain ⟨a, ea⟩ := List.getElem?_eq_some_iff.mp q
  obtain ⟨b, eb⟩ := List.getElem?_eq_some_iff.mp e
  exact h i j a b hi (ea.trans eb.symm)
theorem sorted_ints_eq {a b : List Int} (h : a.Perm b) (ha : a.Pairwise (· ≤ ·)) (hb : b.Pairwise (· ≤ ·)) : a = b :=
  Mt.perm_sorted_eq (R := fun (x y : Int) => x ≤ y) (fun x y h1 h2 => Int.le_antisymm h1 h2) h ha hb
theorem ix_listK {X : Cx} (K : PySem.W.Frag) (h : X.K = K) : IxR X (rIxL K) := by subst h; exact ix_list
end L2
namespace K28
open PySem L2 PyProof.Rows
def top (i : Nat) : Stmt := PySem.Challenge.pw_pairsheath_k28_around_a_ring.main.body.getD i (.Pass ⟨0, 0, 0, 0⟩)
abbrev sOrd : Stmt := top 1
abbrev sAround : Stmt := top 3
abbrev sCell : Stmt := top 5
abbrev sWhole : Stmt := top 6
abbrev sOrder : Stmt := top 7
abbrev sRight : Stmt := top 8
abbrev sLaw : Stmt := top 9
section
variable {P : Program} {w : World} {K : PySem.W.Frag} {mg : Str → Option Value} {base : Heap}
def spOrd : Sp := fun vs H Q _ => ∃ a b : Int, vs = [.int a, .int b] ∧ ∀ p, H p = none → Q (.ref p) (upd H p (.tup [.int (Mt.lo a b), .int (Mt.hi a b)]))
theorem scOrd : FnScope ["a", "b"] ["a", "b"] (defScope sOrd) := ⟨rfl, rfl, rfl, by decide +kernel, rfl, by decide +kernel, by decide +kernel⟩
theorem ok_ord {f : Addr} {fd : FuncData} (F : Fun K "ordered" "ordered" sOrd f fd) (gmin : mg "min" = none) (gmax : mg "max" = none) : FnOk P w K mg base CX0 1 f fd ["a", "b"] spOrd := by
  refine F.ok scOrd (fun vs H Q E h => ?_) (fun cdv A outer s H vs Q E hr h => ?_)
  · obtain ⟨a, b, rfl, _⟩ := h
    rfl
  · obtain ⟨a, b, rfl, h⟩ := h
    refine ⟨_, pss_one (ps_ret (pe_tup (pa_cons (pe_callB (call_min2 rfl) (by rfl) gmin boot_min (pa_cons (pv 0) (pa_cons (pv 1) pa_nil)))
      (pa_cons (pe_callB (call_max2 rfl) (by rfl) gmax boot_max (pa_cons (pv 0) (pa_cons (pv 1) pa_nil))) pa_nil)))), ?_⟩
    exact ⟨_, rfl, _, rfl, a, b, rfl, _, rfl, _, rfl, a, b, rfl, (by show 2 ≤ sizeLine; decide), fun p hp => h p hp⟩
def spCell (K : PySem.W.Frag) : Sp := fun vs H Q _ => ∃ (a : Addr) (ns : List Int) (k : Int), vs = [.ref a, .int k] ∧ 0 ≤ k ∧ SqL K H a (ns.map V.int) ∧ ∀ n : Int, Q (.int n) H
theorem scCell : FnScope ["_law_script", "_law_k"] ["_law_script", "_law_k"] (defScope sCell) := ⟨rfl, rfl, rfl, by decide +kernel, rfl, by decide +kernel, by decide +kernel⟩
theorem ok_cell {f : Addr} {fd : FuncData} (F : Fun K "_law_cell_at" "_law_cell_at" sCell f fd) (glen : mg "len" = none) : FnOk P w K mg base CX0 1 f fd ["_law_script", "_law_k"] (spCell K) := by
  refine F.ok scCell (fun vs H Q E h => ?_) (fun cdv A outer s H vs Q E hr h => ?_)
  · obtain ⟨a, ns, k, rfl, _⟩ := h
    rfl
  · obtain ⟨a, ns, k, rfl, k0, hS, hQ⟩ := h
    refine ⟨_, pss_cons (ps_if (pt_cmpR op_lt (pv 1) (pe_callB call_len_seq (by rfl) glen PySem.boot_len (pa_cons (pv 0) pa_nil)) (nomark _)) (pss_one (ps_ret (pe_ix ix_list (pv 0) (pv 1) (fun _ _ => rfl)))) pss_nil) (pss_one (ps_ret pe_int)), ?_⟩
    refine ⟨_, rfl, _, rfl, a, _, rfl, .inl hS, _, _, rfl, rfl, _, rfl, ?_⟩
    refine ite2 (fun c => ?_) (fun c => hQ 0)
    have c := of_decide_eq_true c
    rw [List.length_map] at c
    obtain ⟨v, _, hv⟩ := pick2 (xs := ns) k0 c
    exact ⟨_, rfl, _, rfl, a, _, _, V.int v, rfl, rfl, hS, hv, hQ _⟩
structure Kit (K : PySem.W.Frag) (mg : Str → Option Value) : Prop where
  ii : PySem.W.kitOne K (.type "int") (.type "int") = some true
  ib : PySem.W.kitOne K (.type "int") (.type "bool") = some false
  ll : PySem.W.kitOne K (.type "list") (.type "list") = some true
  tt : PySem.W.kitOne K (.type "tuple") (.type "tuple") = some true
  gis : mg "isinstance" = none
  gint : mg "int" = none
  gbool : mg "bool" = none
  glist : mg "list" = none
  gtup : mg "tuple" = none
def spWhole : Sp := fun vs H Q _ => ∃ n : Int, vs = [.int n] ∧ Q (.bl true) H
theorem scWhole : FnScope ["_law_found"] ["_law_found"] (defScope sWhole) := ⟨rfl, rfl, rfl, by decide +kernel, rfl, by decide +kernel, by decide +kernel⟩
theorem ok_whole {f : Addr} {fd : FuncData} (F : Fun K "_law_whole" "_law_whole" sWhole f fd) (k : Kit K mg) : FnOk P w K mg base CX0 1 f fd ["_law_found"] spWhole := by
  refine F.ok scWhole (fun vs H Q E h => ?_) (fun cdv A outer s H vs Q E hr h => ?_)
  · obtain ⟨n, rfl, _⟩ := h
    rfl
  · obtain ⟨n, rfl, hQ⟩ := h
    refine ⟨_, pss_one (ps_ret (pe_and (pe_callB call_isV (by rfl) k.gis boot_isinstance (pa_cons (pv 0) (pa_cons (pe_bltn (v := .ty "int") (by rfl) k.gint bt_int rfl) pa_nil)))
      (pe_one (pe_not (pe_callB call_isV (by rfl) k.gis boot_isinstance (pa_cons (pv 0) (pa_cons (pe_bltn (v := .ty "bool") (by rfl) k.gbool bt_bool rfl) pa_nil))))))), ?_⟩
    exact ⟨_, rfl, V.int n, "int", .type "int", true, rfl, .int n, k.ii, ⟨true, rfl, iteT ⟨_, rfl, V.int n, "bool", .type "int", false, rfl, .int n, k.ib, ⟨false, rfl, hQ⟩⟩⟩⟩
/-! order -/
def spOrder (K : PySem.W.Frag) : Sp := fun vs H Q _ => ∃ (a : Addr) (m : Int) (ns : List Int), vs = [.ref a, .int m] ∧ SqL K H a (ns.map V.int) ∧ 0 ≤ m ∧ m ≤ 24 ∧
  ∀ (l : Addr) (t : List Int) (H' : Hp), H l = none → Same H H' → H' l = some (.lst (t.map V.int)) → t.Perm (upto m.toNat) → Q (.ref l) H'
abbrev nmO : List Str := ["_law_script", "_law_many", "_law_order_here", "_law_k", "_law_number"]
theorem scOrder : FnScope nmO ["_law_script", "_law_many"] (defScope sOrder) := ⟨rfl, rfl, rfl, by decide +kernel, rfl, by decide +kernel, by decide +kernel⟩
theorem ok_order {f fC : Addr} {fd fdC : FuncData} (F : Fun K "_law_order" "_law_order" sOrder f fd) (grange : mg "range" = none)
    (GC : FnOk P w K mg base CX0 1 fC fdC ["_law_script", "_law_k"] (spCell K)) (mC : mg "_law_cell_at" = some (.ref fC)) (kC : PySem.W.keepIn K (.ref fC) = true) (bC : Binds K fdC ["_law_script", "_law_k"] []) :
    FnOk P w K mg base CX0 2 f fd ["_law_script", "_law_many"] (spOrder K) := by
  refine F.ok scOrder (fun vs H Q E h => ?_) (fun cdv A outer s H vs Q E hr h => ?_)
  · obtain ⟨a, m, ns, rfl, _⟩ := h
    rfl
  · obtain ⟨a, m, ns, rfl, hS, m0, m1, hQ⟩ := h
    refine ⟨_, pss_cons (ps_set (i := 2) scOrder.nd rfl (Or.inl rfl) (pe_lst pa_nil))
      (pss_cons (ps_for PassesOwn.never rfl (pi_range1 rfl grange (pa_cons (pv 1) pa_nil)) (pg_name (i := 3) scOrder.nd rfl (Or.inl rfl))
        (pss_cons (ps_set (i := 4) scOrder.nd rfl (Or.inl rfl) (pe_op op_mod (pe_op op_mul (pe_op op_add (pe_op op_add (pe_call GC hr rfl mC kC bC .nil pass0 (pa_cons (pv 0) (pa_cons (pe_op op_add (pv 3) pe_int) pa_nil))) (pe_op op_mul pe_int (pv 3))) pe_int) pe_int) pe_int))
        (pss_one (ps_expr (pe_bm PySem.F.plainAttrs_list PySem.F.slot_list_insert PySem.F.type_list_insert mt_insert (pv 2) (pa_cons (pe_op op_mod (pv 4) (pe_op op_add (pv 3) pe_int)) (pa_cons (pv 3) pa_nil)))))))
      (pss_one (ps_ret (pv 2)))), ?_⟩
    refine ⟨Nat.zero_le _, fun l hl => ?_⟩
    have s0 : Same H (upd H l (.lst [])) := Same.new' hl
    refine ⟨_, rfl, m, rfl, by omega, by omega, for_range (lo := 0) (n := m.toNat) (fun i σ H2 => ∃ (t : List Int) (e3 e4 : Option V), σ = [some (.ref a), some (.int m), some (.ref l), e3, e4] ∧ Same H H2 ∧ H2 l = some (.lst (t.map V.int)) ∧ t.Perm (upto i) ∧ i ≤ m.toNat)
      ⟨[], none, none, rfl, s0, upd_same, List.Perm.refl _, Nat.zero_le _⟩ ?_ ?_⟩
    · rintro i σ H2 hi ⟨t, e3, e4, rfl, s2, h2, hp, li⟩
      have lt := hp.length_eq
      rw [upto_len] at lt
      refine ⟨_, rfl, _, rfl, _, _, rfl, rfl, a, ns, _, rfl, by omega, s2.seq hS, fun n => ⟨_, rfl, _, _, rfl, rfl, .inl ⟨by decide, by decide⟩, _, _, rfl, rfl, _, _, rfl, rfl, _, _, rfl, rfl, .inr ⟨by decide, by decide⟩, _, _, rfl, rfl, (by show (0 : Int) < 2147483647; decide), ?_⟩⟩
      dsimp only [gName, List.set_cons_succ, List.set_cons_zero]
      generalize (n + 7 * (0 + (i : Int)) + 3) * 48271 % 2147483647 = nu
      refine ⟨_, rfl, .inl ⟨rfl, _, SqL.of h2⟩, _, rfl, _, rfl, _, _, rfl, rfl, _, _, rfl, rfl, (by show (0 : Int) < 0 + (i : Int) + 1; omega), _, rfl, l, _, _, _, rfl, rfl, h2, Int.emod_nonneg _ (by omega), ?_, ?_, ?_⟩
      · rw [List.length_map, lt]
        have := Int.emod_lt_of_pos nu (show 0 < 0 + (i : Int) + 1 by omega)
        omega
      · rw [List.length_map]; omega
      · refine ⟨t.take (nu % (0 + (i : Int) + 1)).toNat ++ (0 + (i : Int)) :: t.drop (nu % (0 + (i : Int) + 1)).toNat, _, _, rfl, fun c o e => ?_, ?_, ?_, hi⟩
        · rw [upd_ne (ne_of_none e hl)]; exact s2 c o e
        · rw [upd_same, List.map_append, List.map_cons, List.map_take, List.map_drop]
        · rw [upto_succ, Int.zero_add]
          refine List.perm_middle.trans ?_
          rw [List.take_append_drop]
          exact (List.Perm.cons _ hp).trans (List.perm_append_singleton _ _).symm
    · rintro σ H2 ⟨t, e3, e4, rfl, s2, h2, hp, li⟩
      exact ⟨_, rfl, hQ l t H2 hl s2 h2 hp⟩
end
end K28

/-! ### k28: around -/
namespace L2
/-- neighbours in twos, the lesser first -/
def prs : List Int → List (List Int)
  | a :: b :: r => [Mt.lo a b, Mt.hi a b] :: prs r
  | _ => []
theorem prs_len : ∀ os : List Int, (prs os).length = os.length / 2
  | [] => rfl
  | [_] => by simp [prs]
  | _ :: _ :: r => by
    show (prs r).length + 1 = (r.length + 1 + 1) / 2
    rw [prs_len r]
    omega
theorem prs_get : ∀ (os : List Int) (i : Nat), 2 * i + 1 < os.length → (prs os)[i]? = some [Mt.lo (os.getD (2 * i) 0) (os.getD (2 * i + 1) 0), Mt.hi (os.getD (2 * i) 0) (os.getD (2 * i + 1) 0)]
  | [], i, h => by simp at h
  | [_], i, h => by simp at h
  | a :: b :: r, 0, _ => rfl
  | a :: b :: r, i + 1, h => by
    have h' : 2 * i + 1 < r.length := by simp only [List.length_cons] at h; omega
    have e1 : (a :: b :: r).getD (2 * (i + 1)) 0 = r.getD (2 * i) 0 := rfl
    have e2 : (a :: b :: r).getD (2 * (i + 1) + 1) 0 = r.getD (2 * i + 1) 0 := rfl
    rw [e1, e2]
    exact prs_get r i h'
theorem lohi_perm (a b : Int) : List.Perm [Mt.lo a b, Mt.hi a b] [a, b] := by
  unfold Mt.lo Mt.hi
  by_cases h : b < a
  · rw [if_pos h, if_neg (by omega)]
    exact List.Perm.swap _ _ _
  · rw [if_neg h]
    by_cases h2 : b > a
    · rw [if_pos h2]
    · rw [if_neg h2]
      have : a = b := by omega
      rw [this]
theorem prs_flat : ∀ os : List Int, os.length % 2 = 0 → (prs os).flatten.Perm os
  | [], _ => List.Perm.refl _
  | [_], h => by simp at h
  | a :: b :: r, h => by
    have h' : r.length % 2 = 0 := by simp only [List.length_cons] at h; omega
    show ([Mt.lo a b, Mt.hi a b] ++ (prs r).flatten).Perm ([a, b] ++ r)
    exact (lohi_perm a b).append (prs_flat r h')
/-- from behind the place on, and round to it -/
def oth (t : List Int) (j : Nat) : List Int := t.drop (j + 1) ++ t.take j
theorem oth_len {t : List Int} {j : Nat} (h : j < t.length) : (oth t j).length = t.length - 1 := by
  unfold oth
  rw [List.length_append, List.length_drop, List.length_take]
  omega
theorem oth_at {t : List Int} {j k : Nat} (h : j < t.length) (hk : k < t.length - 1) : (oth t j)[k]? = t[if k < t.length - 1 - j then j + 1 + k else k - (t.length - 1 - j)]? := by
  unfold oth
  by_cases c : k < t.length - 1 - j
  · rw [if_pos c, List.getElem?_append_left (by rw [List.length_drop]; omega), List.getElem?_drop]
  · rw [if_neg c, List.getElem?_append_right (by rw [List.length_drop]; omega), List.length_drop, List.getElem?_take]
    rw [if_pos (by omega)]
    congr 1
    omega
/-- each pair: two neighbours on the ring -/
theorem prs_mem {t : List Int} {j : Nat} (hn : t.Nodup) (hj : j < t.length) {pr : List Int} (h : pr ∈ prs (oth t j)) : ∃ (x y : Int) (a b : Nat), pr = [x, y] ∧ x < y ∧ t[a]? = some x ∧ t[b]? = some y ∧ (b = a + 1 ∨ a = b + 1 ∨ b + (t.length - 1) = a ∨ a + (t.length - 1) = b) := by
  obtain ⟨i, hi, e⟩ := List.getElem_of_mem h
  rw [prs_len, oth_len hj] at hi
  have hl := oth_len hj
  have g := prs_get (oth t j) i (by omega)
  have e' : (prs (oth t j))[i]? = some pr := by rw [← e]; simp
  rw [g] at e'
  have e' := Option.some.inj e'
  have h1 := oth_at (k := 2 * i) hj (by omega)
  have h2 := oth_at (k := 2 * i + 1) hj (by omega)
  obtain ⟨x, ex⟩ : ∃ x, (oth t j)[2 * i]? = some x := ⟨(oth t j)[2 * i]'(by omega), by simp⟩
  obtain ⟨y, ey⟩ : ∃ y, (oth t j)[2 * i + 1]? = some y := ⟨(oth t j)[2 * i + 1]'(by omega), by simp⟩
  have gx : (oth t j).getD (2 * i) 0 = x := by simp [ex]
  have gy : (oth t j).getD (2 * i + 1) 0 = y := by simp [ey]
  rw [gx, gy] at e'
  rw [ex] at h1
  rw [ey] at h2
  obtain ⟨A, hA, eA⟩ : ∃ A, t[A]? = some x ∧ A = (if 2 * i < t.length - 1 - j then j + 1 + 2 * i else 2 * i - (t.length - 1 - j)) := ⟨_, h1.symm, rfl⟩
  obtain ⟨B, hB, eB⟩ : ∃ B, t[B]? = some y ∧ B = (if 2 * i + 1 < t.length - 1 - j then j + 1 + (2 * i + 1) else 2 * i + 1 - (t.length - 1 - j)) := ⟨_, h2.symm, rfl⟩
  have hr : B = A + 1 ∨ A = B + (t.length - 1) := by
    rw [eA, eB]
    split <;> split <;> omega
  have nxy : x ≠ y := fun z => by
    subst z
    rcases Nat.lt_trichotomy A B with q | q | q
    · exact first_of hn hB A q hA
    · omega
    · exact first_of hn hA B q hB
  rcases Int.lt_or_gt_of_ne nxy with q | q
  · refine ⟨x, y, A, B, ?_, q, hA, hB, by omega⟩
    rw [← e']
    unfold Mt.lo Mt.hi
    rw [if_neg (by omega), if_pos (by omega)]
  · refine ⟨y, x, B, A, ?_, q, hB, hA, by omega⟩
    rw [← e']
    unfold Mt.lo Mt.hi
    rw [if_pos (by omega), if_neg (by omega)]
theorem oth_perm {t : List Int} {j : Nat} {z : Int} (hn : t.Nodup) (e : t[j]? = some z) : (t.filter fun a => decide (a ≠ z)).Perm (oth t j) := by
  obtain ⟨hj, ej⟩ := List.getElem?_eq_some_iff.mp e
  have hs : t = t.take j ++ z :: t.drop (j + 1) := by
    conv => lhs; rw [← List.take_append_drop j t, List.drop_eq_getElem_cons hj, ej]
  have nd := hn
  rw [hs, List.nodup_append] at nd
  obtain ⟨_, n2, n3⟩ := nd
  obtain ⟨n4, _⟩ := List.nodup_cons.mp n2
  have e1 : (t.take j).filter (fun a => decide (a ≠ z)) = t.take j := List.filter_eq_self.mpr fun a ha => decide_eq_true (n3 a ha z (.head _))
  have e2 : (t.drop (j + 1)).filter (fun a => decide (a ≠ z)) = t.drop (j + 1) := List.filter_eq_self.mpr fun a ha => decide_eq_true fun q => n4 (q ▸ ha)
  have e3 : t.filter (fun a => decide (a ≠ z)) = t.take j ++ t.drop (j + 1) := by
    conv => lhs; rw [hs]
    rw [List.filter_append, List.filter_cons, e1, e2, if_neg (by simp)]
  rw [e3]
  exact List.perm_append_comm
end L2
namespace K28
open PySem L2 PyProof.Rows
section
variable {P : Program} {w : World} {K : PySem.W.Frag} {mg : Str → Option Value} {base : Heap}
def spAround : Sp := fun vs H Q _ => ∃ (p : Addr) (t : List Int) (j : Nat) (z : Int), vs = [.ref p, .int z] ∧ H p = some (.lst (t.map V.int)) ∧ t[j]? = some z ∧ (∀ i, i < j → t[i]? ≠ some z) ∧ t.length % 2 = 1 ∧ t.length ≤ 100 ∧
  ∀ (l : Addr) (qs : List Addr) (ts : List (List Int)) (H' : Hp), H l = none → Same H H' → H' l = some (.lst (qs.map V.ref)) → TupsH H' qs ts → ts.Perm (prs (oth t j)) → (ts.Pairwise fun a b => HT.lexLt b a = false) → Q (.ref l) H'
abbrev nmA : List Str := ["ring", "out", "place", "others"]
theorem scAround : FnScope nmA ["ring", "out"] (defScope sAround) := ⟨rfl, rfl, rfl, by decide +kernel, rfl, by decide +kernel, by decide +kernel⟩
def compA : Scope := { kind := .function, names := [(Str.ofString ".0", .local), (Str.ofString "at", .local), (Str.ofString "ordered", .globalImplicit), (Str.ofString "others", .free)], isGenerator := false, isCoroutine := false, more := [] }
theorem nd_ownA : ([".0", "at", "others"] : List Str).Nodup := by decide +kernel
abbrev XA (P : Program) (w : World) (K : PySem.W.Frag) (mg : Str → Option Value) (base : Heap) (f : Addr) (cdv : Value) (A : Around) (outer : List Env) (s : Shared) (H : Hp) (E : XK) : Cx := (cxOf CX0 P w K mg base nmA "around" (defScope sAround) f cdv A outer s H E).nox
theorem capsA {f : Addr} {cdv : Value} {A : Around} {outer : List Env} {s : Shared} {H : Hp} {E : XK} : Caps (XA P w K mg base f cdv A outer s H E) compA [(Str.ofString "others", s.heap.objs.size + 1)] [".0", "at"] ["others"] [3] := by
  have e1 : (XA P w K mg base f cdv A outer s H E).env.cells = [(Str.ofString "others", s.heap.objs.size + 1)] := by rfl
  have e2 : (relabel compA (XA P w K mg base f cdv A outer s H E).env).names = [(Str.ofString ".0", .local), (Str.ofString "at", .local), (Str.ofString "ordered", .globalImplicit), (Str.ofString "others", .cell)] := by rfl
  refine ⟨rfl, fun x c h => by rw [e1]; exact h, rfl, by decide +kernel, by decide +kernel, fun x hx => ?_, rfl, fun i x e => ?_⟩
  · rw [e2] at hx
    have hx : x = Str.ofString "others" := by
      rcases hx with hx | hx
      all_goals
        have := PySem.mem_of_lookup hx
        simpa using this
    subst hx
    exact ⟨_, rfl⟩
  · match i, e with
    | 0, e =>
      cases (Option.some.inj e)
      exact ⟨3, rfl, rfl, rfl, rfl, by rw [e2]; rfl⟩
    | n + 1, e => cases e
theorem ok_around {f fO : Addr} {fd fdO : FuncData} (F : Fun K "around" "around" sAround f fd) (glen : mg "len" = none) (grange : mg "range" = none) (gsrt : mg "sorted" = none)
    (GO : FnOk P w K mg base CX0 1 fO fdO ["a", "b"] spOrd) (mO : mg "ordered" = some (.ref fO)) (kO : PySem.W.keepIn K (.ref fO) = true) (bO : Binds K fdO ["a", "b"] []) : FnOk P w K mg base CX0 2 f fd ["ring", "out"] spAround := by
  refine F.ok scAround (fun vs H Q E h => ?_) (fun cdv A outer s H vs Q E hr h => ?_)
  · obtain ⟨p, t, j, z, rfl, _⟩ := h
    rfl
  · obtain ⟨p, t, j, z, rfl, hp, ej, hf, odd, lt, hQ⟩ := h
    have hj : j < t.length := (List.getElem?_eq_some_iff.mp ej).1
    refine' ⟨_, pss_cons ?s0 (pss_cons ?s1 (pss_one ?s2)), ?_⟩
    case s0 => exact ps_set (i := 2) scAround.nd rfl (Or.inl rfl) (pe_bm PySem.F.plainAttrs_list PySem.F.slot_list_index PySem.F.type_list_index mt_index (pv 0) (pa_cons (pv 1) pa_nil))
    case s1 => exact ps_set (i := 3) scAround.nd rfl (Or.inr rfl) (pe_op op_cat (pe_slice sl_list (pv 0) (po_some (pe_op op_add (pv 2) pe_int)) po_none) (pe_slice sl_list (pv 0) po_none (po_some (pv 2))))
    case s2 =>
      refine' ps_ret (pe_callB call_sortedLB (by rfl) gsrt boot_sorted (pa_cons ?cc pa_nil))
      case cc => exact pe_comp (g := gName 1) (own := [".0", "at"]) (caps := ["others"]) (js := [3]) rfl capsA (pi_range02 rfl grange (pa_cons pe_int (pa_cons (pe_callB call_len_seq (by rfl) glen PySem.boot_len (pa_cons (pv 3) pa_nil)) (pa_cons pe_int pa_nil)))) (fun pins C s H1 fp => pg_name (i := 1) nd_ownA rfl (Or.inl rfl) (Or.inr rfl)) (fun pins C s H1 fp => pts_nil) (fun pins C s H1 fp => pe_call GO hr rfl mO kO bO .nil pass0 (pa_cons (pe_ix (ix_listK K rfl) (pv 2) (pv 1) (fun _ _ => rfl)) (pa_cons (pe_ix (ix_listK K rfl) (pv 2) (pe_op op_add (pv 1) pe_int) (fun _ _ => rfl)) pa_nil)))
    -- place
    refine ⟨_, rfl, .inl ⟨rfl, _, SqL.of hp⟩, _, rfl, p, t, z, j, rfl, rfl, hp, ej, hf, ?_⟩
    dsimp only [gName, List.set_cons_succ, List.set_cons_zero]
    -- others
    refine ⟨_, rfl, _, rfl, _, _, rfl, rfl, _, rfl, p, _, rfl, SqL.of hp, fun l1 h1 => ?_⟩
    rw [cut_map, cutA_drop _ (by omega)]
    have s1 : Same H (upd H l1 (.lst ((t.drop ((j : Int) + 1).toNat).map V.int))) := Same.new' h1
    refine ⟨_, rfl, _, rfl, _, rfl, p, _, rfl, SqL.of (s1 p _ hp), fun l2 h2 => ?_⟩
    rw [cut_map, cutA_take _ (by omega)]
    have s2 := Same.new' (o := .lst ((t.take (j : Int).toNat).map V.int)) h2
    refine ⟨l1, l2, _, _, rfl, rfl, s2 l1 _ upd_same, upd_same, Nat.le_of_lt (small1000 (by rw [List.length_map, List.length_map, List.length_drop, List.length_take]; omega)), fun l3 h3 => ?_⟩
    have eo : (t.drop ((j : Int) + 1).toNat).map V.int ++ (t.take (j : Int).toNat).map V.int = (oth t j).map V.int := by
      unfold oth
      rw [List.map_append]
      rfl
    rw [eo]
    have s3 := Same.new' (o := .lst ((oth t j).map V.int)) h3
    have s13 := s1.trans (s2.trans s3)
    have ho : upd (upd (upd H l1 (.lst ((t.drop ((j : Int) + 1).toNat).map V.int))) l2 (.lst ((t.take (j : Int).toNat).map V.int))) l3 (.lst ((oth t j).map V.int)) l3 = some (.lst ((oth t j).map V.int)) := upd_same
    dsimp only [gName, List.set_cons_succ, List.set_cons_zero]
    generalize upd (upd (upd H l1 (.lst ((t.drop ((j : Int) + 1).toNat).map V.int))) l2 (.lst ((t.take (j : Int).toNat).map V.int))) l3 (.lst ((oth t j).map V.int)) = H3 at s13 ho ⊢
    have lo := oth_len hj
    have en : (((((oth t j).map V.int).length : Int) + 1) / 2).toNat = (oth t j).length / 2 := by rw [List.length_map]; omega
    refine ⟨_, rfl, l3, _, rfl, .inl (SqL.of ho), _, rfl, by omega, by rw [List.length_map]; omega, fun D hD => ?_⟩
    rw [en]
    refine turns_rangeS (fun i ys σ H4 => ∃ (zs : List Addr) (e0 e1 : Option V), ys = zs.map V.ref ∧ i ≤ (oth t j).length / 2 ∧ σ = [e0, e1, some (.ref l3)] ∧ Same H3 H4 ∧ H4 D = some (.lst ys) ∧ TupsH H4 zs ((prs (oth t j)).take i)) ⟨[], none, none, rfl, Nat.zero_le _, rfl, Same.new' hD, upd_same, .nil⟩ ?_ ?_ ?_
    · rintro i ys σ H4 ⟨zs, e0, e1, rfl, li, rfl, s4, h4, hz⟩
      refine ⟨h4, small1000 ?_⟩
      have := Paired.length hz
      rw [List.length_take, prs_len] at this
      rw [List.length_map]
      omega
    · rintro i ys σ H4 hi ⟨zs, e0, e1, rfl, li, rfl, s4, h4, hz⟩
      unfold gName
      dsimp only
      refine yes_of ?_
      have hk : 2 * i + 1 < (oth t j).length := by omega
      have a1 := atI_get' (xs := oth t j) (z := 0 + (i : Int) * 2) (k := 2 * i) (by omega) (by omega)
      have a2 := atI_get' (xs := oth t j) (z := 0 + (i : Int) * 2 + 1) (k := 2 * i + 1) (by omega) hk
      have ho4 := s4 l3 _ ho
      refine ⟨_, rfl, _, rfl, l3, _, _, _, rfl, rfl, SqL.of ho4, a1, _, rfl, _, rfl, _, _, rfl, rfl, l3, _, _, _, rfl, rfl, SqL.of ho4, a2, _, _, rfl, fun y hy => ?_⟩
      have gp := prs_get (oth t j) i hk
      have s5 := Same.new' (o := .tup [.int (Mt.lo ((oth t j).getD (2 * i) 0) ((oth t j).getD (2 * i + 1) 0)), .int (Mt.hi ((oth t j).getD (2 * i) 0) ((oth t j).getD (2 * i + 1) 0))]) hy
      have h5 := s5 D _ h4
      refine ⟨h5, Nxt.mk hi ⟨zs ++ [y], _, _, by rw [List.map_append]; rfl, hi, rfl, fun b o e => ?_, upd_same, ?_⟩⟩
      · rw [upd_ne (ne_of_none e hD)]; exact s5 b o (s4 b o e)
      · rw [List.take_succ, gp]
        refine paired_snoc (TupsH.at' hz fun b xs e => ?_) ⟨?_, fun z => by cases z⟩
        · rw [upd_ne (ne_of e h4 (by intro z; cases z))]; exact s5 b _ e
        · rw [upd_ne (ne_of_none h4 hy).symm]
          exact upd_same
    · rintro ys σ0 H4 ⟨zs, e0, e1, rfl, li, rfl, s4, h4, hz⟩
      rw [← prs_len, List.take_length] at hz
      have lz := Paired.length hz
      rw [prs_len] at lz
      refine ⟨D, zs, _, rfl, SqL.of h4, by omega, hz, fun qs ts l hS hl => ?_⟩
      obtain ⟨hqs, hperm, _⟩ := hz.sorted hS
      have s5 := Same.new' (o := .lst (qs.map V.ref)) hl
      exact hQ l qs ts _ ((s13.trans s4).free hl) (s13.trans (s4.trans s5)) upd_same (TupsH.at' hqs fun b xs e => s5 b _ e) hperm hS.ord
end
end K28

/-! ### k28: right, the law -/
namespace K28
open PySem L2 PyProof.Rows
section
variable {P : Program} {w : World} {K : PySem.W.Frag} {mg : Str → Option Value} {base : Heap}
def spRight : Sp := fun vs H Q _ => ∃ (l p : Addr) (qs : List Addr) (ts : List (List Int)) (t : List Int) (j : Nat) (z : Int), vs = [.ref l, .ref p, .int z] ∧ H l = some (.lst (qs.map V.ref)) ∧ TupsH H qs ts ∧ ts.Perm (prs (oth t j)) ∧ (ts.Pairwise fun a b => HT.lexLt b a = false) ∧
  H p = some (.lst (t.map V.int)) ∧ t.Nodup ∧ t[j]? = some z ∧ t.length % 2 = 1 ∧ t.length ≤ 30 ∧ ∀ H', Same H H' → Q (.bl true) H'
abbrev nmR : List Str := ["_law_found", "_law_ring", "_law_out", "_law_used", "_law_pair", "_law_apart"]
theorem scRight : FnScope nmR ["_law_found", "_law_ring", "_law_out"] (defScope sRight) := ⟨rfl, rfl, rfl, by decide +kernel, rfl, by decide +kernel, by decide +kernel⟩
def compR : Scope := { kind := .function, names := [(Str.ofString ".0", .local), (Str.ofString "_law_a", .local), (Str.ofString "_law_out", .free)], isGenerator := false, isCoroutine := false, more := [] }
theorem nd_ownR : ([".0", "_law_a", "_law_out"] : List Str).Nodup := by decide +kernel
abbrev XR (P : Program) (w : World) (K : PySem.W.Frag) (mg : Str → Option Value) (base : Heap) (f : Addr) (cdv : Value) (A : Around) (outer : List Env) (s : Shared) (H : Hp) (E : XK) : Cx := (cxOf CX0 P w K mg base nmR "_law_right" (defScope sRight) f cdv A outer s H E).nox
theorem capsR {f : Addr} {cdv : Value} {A : Around} {outer : List Env} {s : Shared} {H : Hp} {E : XK} : Caps (XR P w K mg base f cdv A outer s H E) compR [(Str.ofString "_law_out", s.heap.objs.size + 1)] [".0", "_law_a"] ["_law_out"] [2] := by
  have e1 : (XR P w K mg base f cdv A outer s H E).env.cells = [(Str.ofString "_law_out", s.heap.objs.size + 1)] := by rfl
  have e2 : (relabel compR (XR P w K mg base f cdv A outer s H E).env).names = [(Str.ofString ".0", .local), (Str.ofString "_law_a", .local), (Str.ofString "_law_out", .cell)] := by rfl
  refine ⟨rfl, fun x c h => by rw [e1]; exact h, rfl, by decide +kernel, by decide +kernel, fun x hx => ?_, rfl, fun i x e => ?_⟩
  · rw [e2] at hx
    have hx : x = Str.ofString "_law_out" := by
      rcases hx with hx | hx
      all_goals
        have := PySem.mem_of_lookup hx
        simpa using this
    subst hx
    exact ⟨_, rfl⟩
  · match i, e with
    | 0, e =>
      cases (Option.some.inj e)
      exact ⟨2, rfl, rfl, rfl, rfl, by rw [e2]; rfl⟩
    | n + 1, e => cases e
abbrev rightAt (i : Nat) : Stmt := (defBody sRight).getD i (.Pass ⟨0, 0, 0, 0⟩)
section
variable {f : Addr} {cdv : Value} {A : Around} {outer : List Env} {s : Shared} {H : Hp} {E : XK}
/-- both points are put behind -/
def tCat : TS := fun D σ H => ∃ (u r : Addr) (xs : List V) (x y : Int), σ[3]? = some (some (.ref u)) ∧ σ[4]? = some (some (.ref r)) ∧ H u = some (.lst xs) ∧ H r = some (.tup [.int x, .int y]) ∧ xs.length ≤ 900 ∧ ∀ (u' : Addr) (H' : Hp), Same H H' → H' u' = some (.lst (xs ++ [.int x, .int y])) → D.nx (σ.set 3 (some (.ref u'))) H'
/-- each pair looked at -/
def tLook : TS := fun D σ H => ∃ (l p u : Addr) (qs : List Addr) (ts : List (List Int)) (t : List Int) (j : Nat) (z : Int) (e4 e5 : Option V), σ = [some (.ref l), some (.ref p), some (.int z), some (.ref u), e4, e5] ∧ H l = some (.lst (qs.map V.ref)) ∧ TupsH H qs ts ∧ (∀ r ∈ ts, r ∈ prs (oth t j)) ∧ ts.length ≤ 30 ∧
  H u = some (.lst []) ∧ H p = some (.lst (t.map V.int)) ∧ t.Nodup ∧ j < t.length ∧ t.length ≤ 30 ∧
  ∀ (u' : Addr) (e4 e5 : Option V) (H' : Hp), Same H H' → H' u' = some (.lst (ts.flatten.map V.int)) → D.nx [some (.ref l), some (.ref p), some (.int z), some (.ref u'), e4, e5] H'
theorem ok_r2 (k : Kit K mg) (glen : mg "len" = none) (gabs : mg "abs" = none) {fW : Addr} {fdW : FuncData} (GW : FnOk P w K mg base CX0 1 fW fdW ["_law_found"] spWhole) (mW : mg "_law_whole" = some (.ref fW)) (kW : PySem.W.keepIn K (.ref fW) = true) (bW : Binds K fdW ["_law_found"] [])
    (hr : Room 1 (A.deeper (envOfC "_law_right" (defScope sRight) s.heap.objs.size f cdv))) : PS (XR P w K mg base f cdv A outer s H E) (rightAt 2) tLook := by
  have hr1 : Room 1 (XR P w K mg base f cdv A outer s H E).A := hr
  refine' PS.imp (t' := tLook) (ps_for ?qa ?qb ?qc ?qd ?qe) ?_
  case qa => exact PassesOwn.never
  case qb => exact rfl
  case qc => exact pi_list (pv 0)
  case qd => exact pg_name (i := 4) scRight.nd rfl (Or.inl rfl)
  case qe =>
    refine' pss_cons ?e0 (pss_cons ?e1 (pss_cons ?e2 (pss_cons ?e3 (pss_one ?e4))))
    case e0 => exact ps_if (pw_or (pt_not (pt_val (pe_callB call_isV (by rfl) k.gis boot_isinstance (pa_cons (pv 4) (pa_cons (pe_bltn (v := .ty "tuple") (by rfl) k.gtup bt_tuple rfl) pa_nil))))) (pw_or (pt_cmpR op_ne (pe_callB call_len_seq (by rfl) glen PySem.boot_len (pa_cons (pv 4) pa_nil)) pe_int (nomark _)) (pw_or (pt_not (pt_val (pe_call GW hr1 (by rfl) mW kW bW .nil pass0 (pa_cons (pe_ix ix_tup (pv 4) pe_int (fun _ _ => rfl)) pa_nil)))) (pw_or1 (pt_not (pt_val (pe_call GW hr1 (by rfl) mW kW bW .nil pass0 (pa_cons (pe_ix ix_tup (pv 4) pe_int (fun _ _ => rfl)) pa_nil)))))))).pt (pss_one (ps_ret pe_bl)) pss_nil
    case e1 => exact ps_if (pw_or (pt_cmpR op_ge (pe_ix ix_tup (pv 4) pe_int (fun _ _ => rfl)) (pe_ix ix_tup (pv 4) pe_int (fun _ _ => rfl)) (nomark _)) (pw_or (pt_cmpR op_notIn_seq (pe_ix ix_tup (pv 4) pe_int (fun _ _ => rfl)) (pv 1) (by with_unfolding_all rfl)) (pw_or1 (pt_cmpR op_notIn_seq (pe_ix ix_tup (pv 4) pe_int (fun _ _ => rfl)) (pv 1) (by with_unfolding_all rfl))))).pt (pss_one (ps_ret pe_bl)) pss_nil
    case e2 => exact ps_set (i := 5) scRight.nd rfl (Or.inl rfl) (pe_callB call_abs (by rfl) gabs boot_abs (pa_cons (pe_op op_sub (pe_bm PySem.F.plainAttrs_list PySem.F.slot_list_index PySem.F.type_list_index mt_index (pv 1) (pa_cons (pe_ix ix_tup (pv 4) pe_int (fun _ _ => rfl)) pa_nil)) (pe_bm PySem.F.plainAttrs_list PySem.F.slot_list_index PySem.F.type_list_index mt_index (pv 1) (pa_cons (pe_ix ix_tup (pv 4) pe_int (fun _ _ => rfl)) pa_nil))) pa_nil))
    case e3 => exact ps_if (pw_and (pt_cmpR op_ne (pv 5) pe_int (nomark _)) (pw_and1 (pt_cmpR op_ne (pv 5) (pe_op op_sub (pe_callB call_len_seq (by rfl) glen PySem.boot_len (pa_cons (pv 1) pa_nil)) pe_int) (nomark _)))).pt (pss_one (ps_ret pe_bl)) pss_nil
    case e4 =>
      refine' PS.imp (t' := tCat) (ps_set (i := 3) scRight.nd rfl (Or.inl rfl) (pe_op op_cat (pv 3) (pe_callTy call_list_of (by rfl) k.glist boot_list (pa_cons (pv 4) pa_nil)))) ?_
      rintro D σ H1 ⟨u, r, xs, x, y, e3, e4, hu, hr, lx, kk⟩
      refine ⟨_, e3, _, e4, r, _, rfl, .inr (SqT.of hr), fun l1 h1 => ?_⟩
      have s1 : Same H1 (upd H1 l1 (.lst [.int x, .int y])) := Same.new' h1
      refine ⟨u, l1, _, _, rfl, rfl, s1 u _ hu, upd_same, Nat.le_of_lt (small1000 (by simp only [List.length_cons, List.length_nil]; omega)), fun l2 h2 => ?_⟩
      exact kk l2 _ (s1.trans (Same.new' h2)) upd_same
  rintro D σ H1 ⟨l, p, u, qs, ts, t, j, z, e4, e5, rfl, hl, hT, hm, lts, hu0, hp, hn, hj, lt, kk⟩
  have lq := Paired.length hT
  refine ⟨_, rfl, l, rfl, ⟨_, SqL.of hl⟩, for_list (K := K) (a := l) (xs := qs.map V.ref)
    (fun i σ H2 => ∃ (u' : Addr) (e4 e5 : Option V), σ = [some (.ref l), some (.ref p), some (.int z), some (.ref u'), e4, e5] ∧ Same H1 H2 ∧ H2 u' = some (.lst ((ts.take i).flatten.map V.int)) ∧ (ts.take i).flatten.length ≤ 2 * i)
    ⟨u, _, _, rfl, Same.refl _, hu0, Nat.le_refl _⟩ (fun i σ H2 _ ⟨_, _, _, _, s2, _⟩ => SqL.of (s2 l _ hl)) ?_ ?_⟩
  · rintro i x σ H2 hi ⟨u', e4, e5, rfl, s2, hu2, ln⟩
    obtain ⟨r, tt, rfl, et, hr2⟩ := tup_at (TupsH.at' hT fun b xs e => s2 b _ e) hi
    obtain ⟨x, y, a, b, rfl, hxy, ha, hb, hab⟩ := prs_mem hn hj (hm tt (List.mem_of_getElem? et))
    obtain ⟨f1, f2⟩ : True ∧ (ts.take (i + 1)).flatten = (ts.take i).flatten ++ [x, y] := ⟨trivial, by rw [List.take_succ, et]; simp⟩
    have hil : i < ts.length := (List.getElem?_eq_some_iff.mp et).1
    have hp2 := s2 p _ hp
    have g0 : atI [V.int x, V.int y] 0 = some (.int x) := rfl
    have g1 : atI [V.int x, V.int y] 1 = some (.int y) := rfl
    have mx : x ∈ t := List.mem_of_getElem? ha
    have my : y ∈ t := List.mem_of_getElem? hb
    have la : a < t.length := (List.getElem?_eq_some_iff.mp ha).1
    have lb : b < t.length := (List.getElem?_eq_some_iff.mp hb).1
    -- the kinds
    refine ⟨_, rfl, _, "tuple", _, true, rfl, .tup hr2, k.tt, ⟨true, rfl, iteF ?_⟩⟩
    refine ⟨_, rfl, r, _, rfl, .inr (SqT.of hr2), rfl, _, rfl, iteF ?_⟩
    refine ⟨_, rfl, r, _, _, _, rfl, rfl, SqT.of hr2, g0, x, rfl, true, rfl, iteF ?_⟩
    refine ⟨_, rfl, r, _, _, _, rfl, rfl, SqT.of hr2, g1, y, rfl, true, rfl, iteF ?_⟩
    -- the points
    refine ⟨_, rfl, r, _, _, _, rfl, rfl, SqT.of hr2, g0, _, rfl, r, _, _, _, rfl, rfl, SqT.of hr2, g1, _, _, rfl, rfl, _, rfl, ?_⟩
    rw [decide_eq_false (show ¬ y ≤ x by omega)]
    refine iteF ?_
    refine ⟨_, rfl, r, _, _, _, rfl, rfl, SqT.of hr2, g0, _, rfl, p, _, rfl, .inl (SqL.of hp2), rfl, flat_ints t, _, rfl, ?_⟩
    rw [inV_ints, decide_eq_true mx]
    refine iteF ?_
    refine ⟨_, rfl, r, _, _, _, rfl, rfl, SqT.of hr2, g1, _, rfl, p, _, rfl, .inl (SqL.of hp2), rfl, flat_ints t, _, rfl, ?_⟩
    rw [inV_ints, decide_eq_true my]
    refine iteF ?_
    -- apart
    refine ⟨_, rfl, .inl ⟨rfl, _, SqL.of hp2⟩, _, rfl, r, _, _, _, rfl, rfl, SqT.of hr2, g0, p, t, x, a, rfl, rfl, hp2, ha, first_of hn ha, _, rfl, .inl ⟨rfl, _, SqL.of hp2⟩, _, rfl, r, _, _, _, rfl, rfl, SqT.of hr2, g1, p, t, y, b, rfl, rfl, hp2, hb, first_of hn hb, _, _, rfl, rfl, _, rfl, ?_⟩
    dsimp only [gName, List.set_cons_succ, List.set_cons_zero]
    generalize hA : (if (a : Int) - b < 0 then -((a : Int) - b) else (a : Int) - b) = ap
    have hap : ap = 1 ∨ ap = (t.length : Int) - 1 := by
      rw [← hA]
      split <;> omega
    refine ⟨_, rfl, rfl, _, rfl, ?_⟩
    refine ite2 (fun c1 => ?_) (fun _ => iteF ⟨u', r, _, x, y, rfl, rfl, hu2, hr2, by rw [List.length_map]; omega, fun u2 H3 s3 h3 => ⟨u2, _, _, rfl, s2.trans s3, by rw [h3, f2, List.map_append]; rfl, by rw [f2, List.length_append]; show _ + 2 ≤ _; omega⟩⟩)
    refine ⟨_, rfl, _, rfl, p, _, rfl, .inl (SqL.of hp2), _, _, rfl, rfl, rfl, _, rfl, ?_⟩
    refine ite2 (fun c2 => ?_) (fun _ => ⟨u', r, _, x, y, rfl, rfl, hu2, hr2, by rw [List.length_map]; omega, fun u2 H3 s3 h3 => ⟨u2, _, _, rfl, s2.trans s3, by rw [h3, f2, List.map_append]; rfl, by rw [f2, List.length_append]; show _ + 2 ≤ _; omega⟩⟩)
    exfalso
    rw [List.length_map] at c2
    rcases hap with q | q
    · rw [q] at c1; simp at c1
    · rw [q] at c2; simp at c2
  · rintro σ H2 ⟨u', e4, e5, rfl, s2, hu2, ln⟩
    rw [List.length_map, lq, List.take_length] at hu2
    exact kk u' _ _ H2 s2 hu2
end
end
end K28

/-! ### k28: right, the law -/
namespace K28
open PySem L2 PyProof.Rows
section
variable {P : Program} {w : World} {K : PySem.W.Frag} {mg : Str → Option Value} {base : Heap}
theorem ok_right {f fW : Addr} {fd fdW : FuncData} (F : Fun K "_law_right" "_law_right" sRight f fd) (k : Kit K mg) (glen : mg "len" = none) (gabs : mg "abs" = none) (gsrt : mg "sorted" = none)
    (GW : FnOk P w K mg base CX0 1 fW fdW ["_law_found"] spWhole) (mW : mg "_law_whole" = some (.ref fW)) (kW : PySem.W.keepIn K (.ref fW) = true) (bW : Binds K fdW ["_law_found"] []) : FnOk P w K mg base CX0 2 f fd ["_law_found", "_law_ring", "_law_out"] spRight := by
  refine F.ok scRight (fun vs H Q E h => ?_) (fun cdv A outer s H vs Q E hr h => ?_)
  · obtain ⟨l, p, qs, ts, t, j, z, rfl, _⟩ := h
    rfl
  · obtain ⟨l, p, qs, ts, t, j, z, rfl, hl, hT, hperm, hsrt, hp, hn, ej, odd, lt, hQ⟩ := h
    have hu := hu_of hr
    have hu0 : (XR P w K mg base f cdv A outer s H E).A.units < cLine := Nat.lt_of_succ_lt hu
    have hj : j < t.length := (List.getElem?_eq_some_iff.mp ej).1
    have lq := Paired.length hT
    have lts : ts.length = (t.length - 1) / 2 := by rw [hperm.length_eq, prs_len, oth_len hj]
    refine' ⟨_, pss_cons ?s0 (pss_cons ?s1 (pss_cons (ok_r2 k glen gabs GW mW kW bW hr) (pss_one ?s3))), ?_⟩
    case s0 => exact ps_if (pw_or (pt_not (pt_val (pe_callB call_isV (by rfl) k.gis boot_isinstance (pa_cons (pv 0) (pa_cons (pe_bltn (v := .ty "list") (by rfl) k.glist bt_list rfl) pa_nil))))) (pw_or1 (pt_cmpR (op_neLT hu) (pv 0) (pe_callB call_sortedLB (by rfl) gsrt boot_sorted (pa_cons (pv 0) pa_nil)) (nomark _)))).pt (pss_one (ps_ret pe_bl)) pss_nil
    case s1 => exact ps_set (i := 3) scRight.nd rfl (Or.inl rfl) (pe_lst pa_nil)
    case s3 =>
      refine' ps_ret (pe_cmpR (op_eqI hu0) (pe_callB call_sortedI (by rfl) gsrt boot_sorted (pa_cons (pv 3) pa_nil)) (pe_callB call_sortedI (by rfl) gsrt boot_sorted (pa_cons ?cc pa_nil)) (nomark _))
      case cc => exact pe_comp (g := gName 1) (own := [".0", "_law_a"]) (caps := ["_law_out"]) (js := [2]) rfl capsR (pi_list (pv 1)) (fun pins C s H1 fp => pg_name (i := 1) nd_ownR rfl (Or.inl rfl) (Or.inr rfl)) (fun pins C s H1 fp => pts_one (pt_cmpR op_ne (pv 1) (pv 2) (nomark _))) (fun pins C s H1 fp => pv 1)
    refine ⟨_, rfl, _, "list", _, true, rfl, .lst hl, k.ll, ⟨true, rfl, iteF ?_⟩⟩
    refine ⟨_, rfl, _, rfl, l, qs, ts, rfl, SqL.of hl, by omega, hT, fun qs' ts' l1 hS h1 => ?_⟩
    obtain ⟨hqs', hperm', _⟩ := hT.sorted hS
    have s1 : Same H (upd H l1 (.lst (qs'.map V.ref))) := Same.new' h1
    have es : ts = ts' := (Mt.sorted_eq hperm' hS.ord hsrt).symm
    refine ⟨l, l1, qs, qs', ts, ts', rfl, rfl, SqL.of (s1 l _ hl), SqL.of upd_same, TupsH.at' hT (fun b xs e => s1 b _ e), TupsH.at' hqs' (fun b xs e => s1 b _ e), _, rfl, ?_⟩
    refine iteNS es ?_
    generalize upd H l1 (.lst (qs'.map V.ref)) = H1 at s1 ⊢
    -- used = []
    refine ⟨Nat.zero_le _, fun u hu' => ?_⟩
    have s2 := s1.trans (Same.new' (o := .lst []) hu')
    refine ⟨l, p, u, qs, ts, t, j, z, _, _, rfl, s2 l _ hl, TupsH.at' hT (fun b xs e => s2 b _ e), fun r hr' => hperm.mem_iff.mp hr', by omega, upd_same, s2 p _ hp, hn, hj, lt, fun u' e4 e5 H3 s3 hu3 => ?_⟩
    have s03 := s2.trans s3
    have pf : ts.flatten.Perm (oth t j) := (hperm.flatten).trans (prs_flat _ (by rw [oth_len hj]; omega))
    have lf : ts.flatten.length = t.length - 1 := by rw [pf.length_eq, oth_len hj]
    refine ⟨_, rfl, u', ts.flatten, rfl, SqL.of hu3, by omega, fun t1 l2 p1 o1 h2 => ?_⟩
    have s4 : Same H3 (upd H3 l2 (.lst (t1.map V.int))) := Same.new' h2
    have h24 : upd H3 l2 (.lst (t1.map V.int)) l2 = some (.lst (t1.map V.int)) := upd_same
    generalize upd H3 l2 (.lst (t1.map V.int)) = H4 at s4 h24 ⊢
    have s04 := s03.trans s4
    have hp4 := s04 p _ hp
    refine ⟨_, rfl, p, rfl, ⟨_, SqL.of hp4⟩, fun D hD => ?_⟩
    refine turns_list (K := K) (a := p) (xs := t.map V.int) (fun i ys σ H5 => ∃ (e0 e1 : Option V), ys = ((t.take i).filter fun a => decide (a ≠ z)).map V.int ∧ σ = [e0, e1, some (.int z)] ∧ Same H4 H5 ∧ H5 D = some (.lst ys)) ⟨none, none, rfl, rfl, Same.new' hD, upd_same⟩ ?_ ?_ ?_
    · rintro i ys σ H5 ⟨e0, e1, rfl, rfl, s5, h5⟩
      refine ⟨h5, small1000 ?_, SqL.of (s5 p _ hp4)⟩
      rw [List.length_map]
      have := List.length_filter_le (fun a => decide (a ≠ z)) (t.take i)
      rw [List.length_take] at this
      omega
    · rintro i x ys σ H5 hi ⟨e0, e1, rfl, rfl, s5, h5⟩
      have hil : i < (t.map V.int).length := (List.getElem?_eq_some_iff.mp hi).1
      obtain ⟨y, rfl, ey⟩ := map_int_at hi
      have es : (t.take (i + 1)).filter (fun a => decide (a ≠ z)) = (t.take i).filter (fun a => decide (a ≠ z)) ++ [y].filter fun a => decide (a ≠ z) := by
        rw [List.take_succ, ey, List.filter_append]; rfl
      unfold gName
      dsimp only
      refine ⟨_, rfl, _, rfl, rfl, _, rfl, ?_⟩
      by_cases c : y = z
      · subst c
        refine iteNS rfl ?_
        rw [show [y].filter (fun a => decide (a ≠ y)) = [] by simp, List.append_nil] at es
        exact Nxt.mk hil ⟨_, _, by rw [es], rfl, s5, h5⟩
      · have c' : ¬ V.int y = V.int z := fun q => c (by injection q)
        rw [decide_eq_false c']
        refine iteT ?_
        rw [show [y].filter (fun a => decide (a ≠ z)) = [y] by simp [c]] at es
        refine ⟨_, rfl, h5, Nxt.mk hil ⟨_, _, by rw [es, List.map_append]; rfl, rfl, fun b o e => ?_, upd_same⟩⟩
        rw [upd_ne (ne_of_none e hD)]; exact s5 b o e
    · rintro ys σ0 H5 ⟨e0, e1, rfl, rfl, s5, h5⟩
      rw [List.length_map, List.take_length] at h5
      have pg := oth_perm hn ej
      have lg : (t.filter fun a => decide (a ≠ z)).length = t.length - 1 := by rw [pg.length_eq, oth_len hj]
      refine ⟨D, _, rfl, SqL.of h5, by omega, fun t2 l3 p2 o2 h3 => ?_⟩
      have s6 := Same.new' (o := .lst (t2.map V.int)) h3
      refine ⟨l2, l3, t1, t2, rfl, rfl, SqL.of ((s5.trans s6) l2 _ h24), SqL.of upd_same, ?_⟩
      rw [decide_eq_true (sorted_ints_eq (p1.trans (pf.trans (p2.trans pg).symm)) o1 o2)]
      exact hQ _ (s04.trans (s5.trans s6))
structure CallsL (P : Program) (w : World) (K : PySem.W.Frag) (mg : Str → Option Value) (base : Heap) : Prop where
  lst : mg "list" = none
  cel : ∃ f fd, mg "_law_cell_at" = some (.ref f) ∧ PySem.W.keepIn K (.ref f) = true ∧ FnOk P w K mg base CX0 1 f fd ["_law_script", "_law_k"] (spCell K) ∧ Binds K fd ["_law_script", "_law_k"] []
  ord : ∃ f fd, mg "_law_order" = some (.ref f) ∧ PySem.W.keepIn K (.ref f) = true ∧ FnOk P w K mg base CX0 2 f fd ["_law_script", "_law_many"] (spOrder K) ∧ Binds K fd ["_law_script", "_law_many"] []
  aro : ∃ f fd, mg "around" = some (.ref f) ∧ PySem.W.keepIn K (.ref f) = true ∧ FnOk P w K mg base CX0 2 f fd ["ring", "out"] spAround ∧ Binds K fd ["ring", "out"] []
  rig : ∃ f fd, mg "_law_right" = some (.ref f) ∧ PySem.W.keepIn K (.ref f) = true ∧ FnOk P w K mg base CX0 2 f fd ["_law_found", "_law_ring", "_law_out"] spRight ∧ Binds K fd ["_law_found", "_law_ring", "_law_out"] []
def spLaw (K : PySem.W.Frag) : Sp := fun vs H Q _ => ∃ (a : Addr) (ns : List Int), vs = [.ref a] ∧ SqL K H a (ns.map V.int) ∧ ns.length ≤ 63 ∧ ∀ H', Q (.bl true) H'
abbrev nmL : List Str := ["_law_script", "_law_head", "_law_size", "_law_ring", "_law_outs", "_law_handed", "_law_out", "_law_found"]
theorem scLaw : FnScope nmL ["_law_script"] (defScope sLaw) := ⟨rfl, rfl, rfl, by decide +kernel, rfl, by decide +kernel, by decide +kernel⟩
abbrev XL (P : Program) (w : World) (K : PySem.W.Frag) (mg : Str → Option Value) (base : Heap) (f : Addr) (cdv : Value) (A : Around) (outer : List Env) (s : Shared) (H : Hp) (E : XK) : Cx := (cxOf CX0 P w K mg base nmL "law" (defScope sLaw) f cdv A outer s H E).nox
abbrev lawAt (i : Nat) : Stmt := (defBody sLaw).getD i (.Pass ⟨0, 0, 0, 0⟩)
section
variable {f : Addr} {cdv : Value} {A : Around} {outer : List Env} {s : Shared} {H : Hp} {E : XK}
/-- maybe the other way round -/
def tOuts : TS := fun D σ H => ∃ (h : Int) (r : Addr) (t : List Int), σ[1]? = some (some (.int h)) ∧ σ[3]? = some (some (.ref r)) ∧ σ[4]? = some (some (.ref r)) ∧ H r = some (.lst (t.map V.int)) ∧ ∀ (o : Addr) (t' : List Int) (H' : Hp), Same H H' → H' o = some (.lst (t'.map V.int)) → (∀ x ∈ t', x ∈ t) → t'.length = t.length → D.nx (σ.set 4 (some (.ref o))) H'
theorem ok_l4 : PS (XL P w K mg base f cdv A outer s H E) (lawAt 4) tOuts := by
  refine' PS.imp (t' := tOuts) (ps_if (pt_cmpR op_eq (pe_op op_mod (pe_op op_fdiv (pv 1) pe_int) pe_int) pe_int (nomark _)) (pss_one (ps_set (i := 4) scLaw.nd rfl (Or.inl rfl) (pe_rev (pv 3) (pe_un un_neg pe_int)))) pss_nil) ?_
  rintro D σ H1 ⟨h, r, t, e1, e3, e4, hr, k⟩
  refine ⟨_, e1, _, _, rfl, rfl, ⟨by decide, by decide⟩, _, _, rfl, rfl, (by show (0 : Int) < 2; decide), rfl, _, rfl, ?_⟩
  refine ite2 (fun _ => ?_) (fun _ => ?_)
  · refine ⟨_, e3, _, rfl, rfl, r, _, rfl, SqL.of hr, fun o ho => ?_⟩
    rw [← List.map_reverse]
    exact k o t.reverse _ (Same.new' ho) upd_same (fun x hx => List.mem_reverse.mp hx) (List.length_reverse)
  · have := k r t H1 (Same.refl _) hr (fun x hx => hx) rfl
    rw [set_self e4] at this
    exact this
end
theorem ok_law {f : Addr} {fd : FuncData} (F : Fun K "law" "law" sLaw f fd) (G : CallsL P w K mg base) : FnOk P w K mg base CX0 3 f fd ["_law_script"] (spLaw K) := by
  obtain ⟨f1, fd1, m1, k1, G1, b1⟩ := G.cel
  obtain ⟨f2, fd2, m2, k2, G2, b2⟩ := G.ord
  obtain ⟨f3, fd3, m3, k3, G3, b3⟩ := G.aro
  obtain ⟨f4, fd4, m4, k4, G4, b4⟩ := G.rig
  refine F.ok scLaw (fun vs H Q E h => ?_) (fun cdv A outer s H vs Q E hr h => ?_)
  · obtain ⟨a, ns, rfl, _⟩ := h
    rfl
  · obtain ⟨a, ns, rfl, hS, hns, hQ⟩ := h
    have hu := hu_of hr
    have hu0 : (XL P w K mg base f cdv A outer s H E).A.units < cLine := Nat.lt_of_succ_lt hu
    have hr1 : Room 1 (XL P w K mg base f cdv A outer s H E).A := hr.mono (by decide)
    have hr2 : Room 2 (XL P w K mg base f cdv A outer s H E).A := hr
    refine' ⟨_, pss_cons ?s0 (pss_cons ?s1 (pss_cons ?s2 (pss_cons ?s3 (pss_cons ok_l4 (pss_cons ?s5 (pss_cons ?s6 (pss_one ?s7))))))), ?_⟩
    case s0 => exact ps_set (i := 1) scLaw.nd rfl (Or.inl rfl) (pe_op op_mod (pe_op op_mul (pe_op op_add (pe_call G1 hr1 rfl m1 k1 b1 .nil pass0 (pa_cons (pv 0) (pa_cons pe_int pa_nil))) pe_int) pe_int) pe_int)
    case s1 => exact ps_set (i := 2) scLaw.nd rfl (Or.inl rfl) (pe_op op_add pe_int (pe_op op_mul pe_int (pe_op op_mod (pv 1) pe_int)))
    case s2 => exact ps_set (i := 3) scLaw.nd rfl (Or.inl rfl) (pe_slice sl_list (pe_call G2 hr2 rfl m2 k2 b2 .nil pass0 (pa_cons (pv 0) (pa_cons pe_int pa_nil))) po_none (po_some (pv 2)))
    case s3 => exact ps_set (i := 4) scLaw.nd rfl (Or.inl rfl) (pv 3)
    case s5 => exact ps_set (i := 5) scLaw.nd rfl (Or.inl rfl) (pe_callTy call_list_of (by rfl) G.lst boot_list (pa_cons (pv 3) pa_nil))
    case s6 =>
      refine' ps_for ?qa ?qb ?qc ?qd ?qe
      case qa => exact PassesOwn.never
      case qb => exact rfl
      case qc => exact pi_list (pe_op op_cat (pv 4) (pe_slice sl_list (pv 4) po_none (po_some pe_int)))
      case qd => exact pg_name (i := 6) scLaw.nd rfl (Or.inl rfl)
      case qe =>
        refine' pss_cons ?e0 (pss_cons ?e1 (pss_one ?e2))
        case e0 => exact ps_set (i := 7) scLaw.nd rfl (Or.inl rfl) (pe_call G3 hr2 rfl m3 k3 b3 .nil pass0 (pa_cons (pv 5) (pa_cons (pv 6) pa_nil)))
        case e1 => exact ps_if (pt_not (pt_val (pe_call G4 hr2 (by rfl) m4 k4 b4 .nil pass0 (pa_cons (pv 7) (pa_cons (pv 3) (pa_cons (pv 6) pa_nil)))))) (pss_one (ps_ret pe_bl)) pss_nil
        case e2 => exact ps_expr (pe_bm PySem.F.plainAttrs_list PySem.F.slot_list_append PySem.F.type_list_append mt_append (pv 7) (pa_cons pe_non pa_nil))
    case s7 => exact ps_ret (pe_cmpR (op_eqI hu0) (pv 5) (pv 3) (nomark _))
    -- head
    refine ⟨_, rfl, a, ns, 0, rfl, by omega, hS, fun n0 => ⟨_, _, rfl, rfl, _, _, rfl, rfl, .inr ⟨by decide, by decide⟩, _, _, rfl, rfl, (by show (0 : Int) < 2147483647; decide), ?_⟩⟩
    dsimp only [gName, List.set_cons_succ, List.set_cons_zero]
    generalize (n0 + 7) * 48271 % 2147483647 = h
    -- size
    refine ⟨_, rfl, _, _, rfl, rfl, (by show (0 : Int) < 11; decide), _, _, rfl, rfl, .inl ⟨by decide, by decide⟩, _, _, rfl, rfl, ?_⟩
    dsimp only [gName, List.set_cons_succ, List.set_cons_zero]
    have h0 := Int.emod_nonneg h (show (11 : Int) ≠ 0 by decide)
    have h1 := Int.emod_lt_of_pos h (show (0 : Int) < 11 by decide)
    -- ring
    refine ⟨_, rfl, a, 24, ns, rfl, hS, by decide, by decide, fun l0 t0 H1 hl0 s1 h1' hp0 => ?_⟩
    refine ⟨_, rfl, _, rfl, l0, _, rfl, SqL.of h1', fun r hr' => ?_⟩
    rw [cut_map, cutA_take _ (by omega)]
    have l0' := hp0.length_eq
    rw [upto_len] at l0'
    have hnd : (t0.take (3 + 2 * (h % 11)).toNat).Nodup := ((hp0.nodup_iff).mpr (upto_nd _)).sublist (List.take_sublist _ _)
    have hln : (t0.take (3 + 2 * (h % 11)).toNat).length = (3 + 2 * (h % 11)).toNat := by rw [List.length_take, l0']; show min _ 24 = _; omega
    generalize t0.take (3 + 2 * (h % 11)).toNat = t at hnd hln ⊢
    have s2 : Same H1 (upd H1 r (.lst (t.map V.int))) := Same.new' hr'
    have hr2' : upd H1 r (.lst (t.map V.int)) r = some (.lst (t.map V.int)) := upd_same
    dsimp only [gName, List.set_cons_succ, List.set_cons_zero]
    generalize upd H1 r (.lst (t.map V.int)) = H2 at s2 hr2' ⊢
    -- outs
    refine ⟨_, rfl, ?_⟩
    dsimp only [gName, List.set_cons_succ, List.set_cons_zero]
    refine ⟨h, r, t, rfl, rfl, rfl, hr2', fun o to H3 s3 ho hmem hlo => ?_⟩
    have hr3 := s3 r _ hr2'
    dsimp only [gName, List.set_cons_succ, List.set_cons_zero]
    -- handed
    refine ⟨_, rfl, r, _, rfl, .inl (SqL.of hr3), fun d hd => ?_⟩
    have s4 : Same H3 (upd H3 d (.lst (t.map V.int))) := Same.new' hd
    have hd4 : upd H3 d (.lst (t.map V.int)) d = some (.lst (t.map V.int)) := upd_same
    dsimp only [gName, List.set_cons_succ, List.set_cons_zero]
    generalize upd H3 d (.lst (t.map V.int)) = H4 at s4 hd4 ⊢
    have hr4 := s4 r _ hr3
    have ho4 := s4 o _ ho
    -- outs + outs[:1]
    refine ⟨_, rfl, _, rfl, _, rfl, o, _, rfl, SqL.of ho4, fun l1 hl1 => ?_⟩
    rw [cut_map, cutA_take _ (by decide)]
    have s5 := Same.new' (o := .lst ((to.take (1 : Int).toNat).map V.int)) hl1
    refine ⟨o, l1, _, _, rfl, rfl, s5 o _ ho4, upd_same, Nat.le_of_lt (small1000 (by rw [List.length_map, List.length_map, List.length_take]; omega)), fun l2 hl2 => ?_⟩
    rw [← List.map_append]
    have s6 := s5.trans (Same.new' (o := .lst ((to ++ to.take (1 : Int).toNat).map V.int)) hl2)
    have hl26 : upd (upd H4 l1 (.lst ((to.take (1 : Int).toNat).map V.int))) l2 (.lst ((to ++ to.take (1 : Int).toNat).map V.int)) l2 = some (.lst ((to ++ to.take (1 : Int).toNat).map V.int)) := upd_same
    generalize upd (upd H4 l1 (.lst ((to.take (1 : Int).toNat).map V.int))) l2 (.lst ((to ++ to.take (1 : Int).toNat).map V.int)) = H6 at s6 hl26 ⊢
    have hm2 : ∀ x ∈ to ++ to.take (1 : Int).toNat, x ∈ t := fun x hx => (List.mem_append.mp hx).elim (hmem x) fun q => hmem x (List.mem_of_mem_take q)
    generalize to ++ to.take (1 : Int).toNat = tw at hl26 hm2 ⊢
    have hd6 := s6 d _ hd4
    have hr6 := s6 r _ hr4
    refine ⟨l2, rfl, ⟨_, SqL.of hl26⟩, for_list (K := K) (a := l2) (xs := tw.map V.int)
      (fun i σ H7 => ∃ (e6 e7 : Option V), σ = [some (.ref a), some (.int h), some (.int (3 + 2 * (h % 11))), some (.ref r), some (.ref o), some (.ref d), e6, e7] ∧ Same H6 H7) ⟨_, _, rfl, Same.refl _⟩ (fun i σ H7 _ ⟨_, _, _, s7⟩ => SqL.of (s7 l2 _ hl26)) ?_ ?_⟩
    · rintro i x σ H7 hi ⟨e6, e7, rfl, s7⟩
      obtain ⟨z, rfl, ez⟩ := map_int_at hi
      obtain ⟨j, hj, ej⟩ := List.getElem_of_mem (hm2 z (List.mem_of_getElem? ez))
      have ej' : t[j]? = some z := by rw [← ej]; simp
      have odd : t.length % 2 = 1 := by rw [hln]; omega
      have l30 : t.length ≤ 23 := by rw [hln]; omega
      refine ⟨_, rfl, _, rfl, d, t, j, z, rfl, s7 d _ hd6, ej', first_of hnd ej', odd, by omega, fun lf qs ts H8 hlf s8 h8 hT8 hp8 ho8 => ?_⟩
      dsimp only [gName, List.set_cons_succ, List.set_cons_zero]
      refine ⟨_, rfl, _, rfl, _, rfl, lf, r, qs, ts, t, j, z, rfl, h8, hT8, hp8, ho8, s8 r _ (s7 r _ hr6), hnd, ej', odd, by omega, fun H9 s9 => ⟨true, rfl, iteF ?_⟩⟩
      have h9 := s9 lf _ h8
      have lq := Paired.length hT8
      have lts : ts.length ≤ 30 := by rw [hp8.length_eq, prs_len, oth_len hj]; omega
      refine ⟨_, rfl, .inl ⟨rfl, _, SqL.of h9⟩, lf, _, _, rfl, rfl, h9, small1000 (by rw [List.length_map]; omega), ?_⟩
      refine ⟨_, _, rfl, fun b oo e => ?_⟩
      have e7 := s7 b oo e
      rw [upd_ne (ne_of_none e7 hlf)]
      exact s9 b oo (s8 b oo e7)
    · rintro σ H7 ⟨e6, e7, rfl, s7⟩
      refine ⟨_, rfl, _, rfl, d, r, t, t, rfl, rfl, SqL.of (s7 d _ hd6), SqL.of (s7 r _ hr6), ?_⟩
      rw [decide_eq_true rfl]
      exact hQ _
end
end K28

/-! ### k28: all of it from the top -/
namespace K28
open PySem L2 PyProof.Rows
/-- a def of the top -/
def DefAt (K : PySem.W.Frag) (mg : Str → Option Value) (x : Str) (st : Stmt) : Prop := ∃ f fd, mg x = some (.ref f) ∧ Fun K x x st f fd
theorem def_mk {K : PySem.W.Frag} {mg : Str → Option Value} {h : Heap} {x : Str} {st : Stmt} {f : Addr} {oc : Value} {od an : Option Addr} {osl : Array (Option Value)} {kV doc pm cdv ct : Value} (X : K.In h) (G : h.Ns mainGlobals mg)
    (a : PySem.W.nsIn K mainGlobals x = some (some (.ref f))) (l : K.lookup f = some ⟨oc, od, .func (PySem.W.fnOf x x (defArgs st) (defBody st) (defScope st) .none kV doc pm an cdv ct), osl⟩)
    (c : PySem.W.codeIn K cdv x = true) (k : PySem.W.keepIn K (.ref f) = true) : DefAt K mg x st := ⟨f, _, PySem.W.mg_of X G a, fun_mk l c k⟩
theorem calls_mk {P : Program} {w : World} {K : PySem.W.Frag} {mg : Str → Option Value} {base : Heap}
    (g_isinstance : mg "isinstance" = none) (g_int : mg "int" = none) (g_bool : mg "bool" = none) (g_list : mg "list" = none) (g_tuple : mg "tuple" = none) (g_min : mg "min" = none) (g_max : mg "max" = none) (g_len : mg "len" = none) (g_range : mg "range" = none) (g_abs : mg "abs" = none) (g_sorted : mg "sorted" = none)
    (ii : PySem.W.kitOne K (.type "int") (.type "int") = some true) (ib : PySem.W.kitOne K (.type "int") (.type "bool") = some false) (ll : PySem.W.kitOne K (.type "list") (.type "list") = some true) (tt : PySem.W.kitOne K (.type "tuple") (.type "tuple") = some true)
    (d0 : DefAt K mg "ordered" sOrd) (d1 : DefAt K mg "around" sAround) (d2 : DefAt K mg "_law_cell_at" sCell) (d3 : DefAt K mg "_law_whole" sWhole) (d4 : DefAt K mg "_law_order" sOrder) (d5 : DefAt K mg "_law_right" sRight) : CallsL P w K mg base := by
  obtain ⟨f0, fd0, m0, F0⟩ := d0
  obtain ⟨f1, fd1, m1, F1⟩ := d1
  obtain ⟨f2, fd2, m2, F2⟩ := d2
  obtain ⟨f3, fd3, m3, F3⟩ := d3
  obtain ⟨f4, fd4, m4, F4⟩ := d4
  obtain ⟨f5, fd5, m5, F5⟩ := d5
  have b0 := F0.binds (ps := ["a", "b"]) fun _ _ _ _ _ _ us hl => match us, hl with | [_, _], _ => rfl
  have b1 := F1.binds (ps := ["ring", "out"]) fun _ _ _ _ _ _ us hl => match us, hl with | [_, _], _ => rfl
  have b2 := F2.binds (ps := ["_law_script", "_law_k"]) fun _ _ _ _ _ _ us hl => match us, hl with | [_, _], _ => rfl
  have b3 := F3.binds (ps := ["_law_found"]) fun _ _ _ _ _ _ us hl => match us, hl with | [_], _ => rfl
  have b4 := F4.binds (ps := ["_law_script", "_law_many"]) fun _ _ _ _ _ _ us hl => match us, hl with | [_, _], _ => rfl
  have b5 := F5.binds (ps := ["_law_found", "_law_ring", "_law_out"]) fun _ _ _ _ _ _ us hl => match us, hl with | [_, _, _], _ => rfl
  have kit : Kit K mg := ⟨ii, ib, ll, tt, g_isinstance, g_int, g_bool, g_list, g_tuple⟩
  have G0 := ok_ord (P := P) (w := w) (mg := mg) (base := base) F0 g_min g_max
  have G1 := ok_around (P := P) (w := w) (mg := mg) (base := base) F1 g_len g_range g_sorted G0 m0 F0.kp b0
  have G2 := ok_cell (P := P) (w := w) (mg := mg) (base := base) F2 g_len
  have G3 := ok_whole (P := P) (w := w) (mg := mg) (base := base) F3 kit
  have G4 := ok_order (P := P) (w := w) (mg := mg) (base := base) F4 g_range G2 m2 F2.kp b2
  have G5 := ok_right (P := P) (w := w) (mg := mg) (base := base) F5 kit g_len g_abs g_sorted G3 m3 F3.kp b3
  exact ⟨g_list, ⟨f2, fd2, m2, F2.kp, G2, b2⟩, ⟨f4, fd4, m4, F4.kp, G4, b4⟩, ⟨f1, fd1, m1, F1.kp, G1, b1⟩, ⟨f5, fd5, m5, F5.kp, G5, b5⟩⟩
theorem law_mk {P : Program} {w : World} {K : PySem.W.Frag} {mg : Str → Option Value} {fa : Addr} (hmg : mg "law" = some (.ref fa)) (d : DefAt K mg "law" sLaw) (G : ∀ base : Heap, CallsL P w K mg base) :
    ∃ fd : FuncData, (∀ (s : Shared) (u : Value), BindsTo s fd ⟨[u], []⟩ [("_law_script", u)]) ∧ ∀ base : Heap, K.In base → base.Ns mainGlobals mg → FnOk P w K mg base CX0 3 fa fd ["_law_script"] (spLaw K) := by
  obtain ⟨f, fd, m, F⟩ := d
  cases hmg.symm.trans m
  obtain ⟨oc, od, kV, doc, pm, an, cdv, ct, osl, rfl, l, c⟩ := F.ex
  exact ⟨_, fun s u => .of_eq rfl, fun base _ _ => ok_law F (G base)⟩
theorem all_mk {P : Program} {w : World} {K : PySem.W.Frag} {mg : Str → Option Value} {h : Heap} {fa : Addr} (X : K.In h) (G : h.Ns mainGlobals mg) (hmg : mg "law" = some (.ref fa))
    (z0 : PySem.W.nsIn K mainGlobals "isinstance" = some none) (z1 : PySem.W.nsIn K mainGlobals "int" = some none) (z2 : PySem.W.nsIn K mainGlobals "bool" = some none) (z3 : PySem.W.nsIn K mainGlobals "list" = some none) (z4 : PySem.W.nsIn K mainGlobals "tuple" = some none) (z5 : PySem.W.nsIn K mainGlobals "min" = some none) (z6 : PySem.W.nsIn K mainGlobals "max" = some none) (z7 : PySem.W.nsIn K mainGlobals "len" = some none) (z8 : PySem.W.nsIn K mainGlobals "range" = some none) (z9 : PySem.W.nsIn K mainGlobals "abs" = some none) (z10 : PySem.W.nsIn K mainGlobals "sorted" = some none)
    (ii : PySem.W.kitOne K (.type "int") (.type "int") = some true) (ib : PySem.W.kitOne K (.type "int") (.type "bool") = some false) (ll : PySem.W.kitOne K (.type "list") (.type "list") = some true) (tt : PySem.W.kitOne K (.type "tuple") (.type "tuple") = some true)
    (d0 : DefAt K mg "ordered" sOrd) (d1 : DefAt K mg "around" sAround) (d2 : DefAt K mg "_law_cell_at" sCell) (d3 : DefAt K mg "_law_whole" sWhole) (d4 : DefAt K mg "_law_order" sOrder) (d5 : DefAt K mg "_law_right" sRight) (dL : DefAt K mg "law" sLaw) :
    ∃ fd : FuncData, (∀ (s : Shared) (u : Value), BindsTo s fd ⟨[u], []⟩ [("_law_script", u)]) ∧ ∀ base : Heap, K.In base → base.Ns mainGlobals mg → FnOk P w K mg base CX0 3 fa fd ["_law_script"] (spLaw K) := by
  have z := fun {x : Str} (e : PySem.W.nsIn K mainGlobals x = some none) => PySem.W.mg_none_of X G e
  refine law_mk hmg dL fun base => ?_
  exact calls_mk (z z0) (z z1) (z z2) (z z3) (z z4) (z z5) (z z6) (z z7) (z z8) (z z9) (z z10) ii ib ll tt d0 d1 d2 d3 d4 d5 
theorem walk {l : PySem.W.OpenLaw} {q : Program} {loose : List Str} {XP : (Str → Option Value) → Heap → Prop} {YP : World → Heap → Prop} {d : DefRec} {K : Params → PySem.W.Frag} (hn : l.most = some 63) (hdf : d.params.defaults = [])
    (hY : ∀ (w : World) (h : Heap), YP w h → (K w.params).In h)
    (F : ∀ (w : World) (mg : Str → Option Value) (fa : Addr) (h : Heap), (K w.params).In h → h.Ns mainGlobals mg → mg d.name = some (.ref fa) →
      ∃ fd : FuncData, (∀ (s : Shared) (u : Value), BindsTo s fd ⟨[u], []⟩ [("_law_script", u)]) ∧ ∀ base : Heap, (K w.params).In base → base.Ns mainGlobals mg → FnOk l.prog w (K w.params) mg base CX0 3 fa fd ["_law_script"] (spLaw (K w.params))) :
    PySem.W.WalkO q loose XP YP l.row.toRowW d [] (fun f vs => PySem.call f vs) :=
  L2.walk_of (n := 63) (k := 3) (x := "_law_script") (CX := fun _ => CX0) (sp := fun w => spLaw (K w.params)) hn (by decide) hdf ⟨rfl, by decide, by decide⟩ hY F (fun _ _ a ns hl _ hS => ⟨a, ns, rfl, hS, hl, fun _ => rfl⟩) fun _ _ _ _ _ z => z
end K28

open PySem PySem.W PyProof.Rows
set_option maxRecDepth 100000 in
set_option maxHeartbeats 0 in
theorem PySem.Challenge.cw_pairsheath_k28_around_a_ring_holds : PySem.Challenge.rw_pairsheath_k28_around_a_ring.Holds := by
  w_on; o_law; k_head; (case hw => w_witness2)
  k_fill
  refine K28.walk (l := PySem.Challenge.rw_pairsheath_k28_around_a_ring) rfl rfl (fun w h Y => PySem.W.kIn_of Y) ?F
  case F =>
    intro w mg fa h KX G hmg
    refine' K28.all_mk KX G hmg ?z0 ?z1 ?z2 ?z3 ?z4 ?z5 ?z6 ?z7 ?z8 ?z9 ?z10 ?ii ?ib ?ll ?tt ?d0 ?d1 ?d2 ?d3 ?d4 ?d5 ?dL
    (case z0 => k_is)
    (case z1 => k_is)
    (case z2 => k_is)
    (case z3 => k_is)
    (case z4 => k_is)
    (case z5 => k_is)
    (case z6 => k_is)
    (case z7 => k_is)
    (case z8 => k_is)
    (case z9 => k_is)
    (case z10 => k_is)
    (case ii => kit_is)
    (case ib => kit_is)
    (case ll => kit_is)
    (case tt => kit_is)
    (case d0 => refine' K28.def_mk KX G ?a ?l ?c ?k; (case a => k_is); (case l => k_is); (case c => k_is); (case k => k_is))
    (case d1 => refine' K28.def_mk KX G ?a ?l ?c ?k; (case a => k_is); (case l => k_is); (case c => k_is); (case k => k_is))
    (case d2 => refine' K28.def_mk KX G ?a ?l ?c ?k; (case a => k_is); (case l => k_is); (case c => k_is); (case k => k_is))
    (case d3 => refine' K28.def_mk KX G ?a ?l ?c ?k; (case a => k_is); (case l => k_is); (case c => k_is); (case k => k_is))
    (case d4 => refine' K28.def_mk KX G ?a ?l ?c ?k; (case a => k_is); (case l => k_is); (case c => k_is); (case k => k_is))
    (case d5 => refine' K28.def_mk KX G ?a ?l ?c ?k; (case a => k_is); (case l => k_is); (case c => k_is); (case k => k_is))
    (case dL => refine' K28.def_mk KX G ?a ?l ?c ?k; (case a => k_is); (case l => k_is); (case c => k_is); (case k => k_is))
